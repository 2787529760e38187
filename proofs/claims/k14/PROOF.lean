import PyProof.Rows.All
import Wide.All
import OpenK.AllK
import Wide.FinOn
import HandS.ForMost
import HandS.Walk
import HandS.Conv
import HandS.Zip
import HandS.TupAny
import HandS.TupMul
import HandS.TupLe
import HandS.IsInst
import HandS.Style
import HandS.Flow
import HandS.Small
import HandS.RaiseMore
import HandS.Evl
import PyProof.ReprRoads
import KE.GoesMore
import HandS.SortRule
import HandS.ForExc
import HandS.ExcIs
import HandS.ExcValue
import KE.KIsAll
import PyProof.CallFns
import KE.KItemsList
import HandS.More
import PySem.Challenge.RW_gridshares_k14_rows_where_cells_come_and
set_option Elab.async false
set_option linter.all false
set_option maxRecDepth 100000
set_option maxHeartbeats 4000000
/-! Defs that are called while nothing is being shown (repr): the stack bears no guard. -/
namespace GS
open PySem PySem.Spec PyProof.Rows L2
abbrev Clr (A : Around) : Prop := A.guards = some []
/-- a def's promise, where no repr is under way -/
structure FnG (P : Program) (w : World) (K : PySem.W.Frag) (mg : Str → Option Value) (base : Heap)
    (k : Nat) (f : Addr) (fd : FuncData) (ps : List Str) (sp : Sp) : Prop where
  num : ∀ vs H Q E, sp vs H Q E → vs.length = ps.length
  go : ∀ (A : Around) (fr : List Env) (s : Shared) (H : Hp) (ar : Args) (us : List Value) (vs : List V) (Q : VK) (E : XK),
    Clr A → Room k A → Env0 P w K mg base A fr s H → BindsTo s fd ar (ps.zip us) → Vals vs us →
    sp vs H Q E → codeAny (model P w) A (.call (.ref f) ar) (CR CX0 fr P w H s Q E) s
section
variable {X : Cx} {k : Nat} {f : Addr} {fd : FuncData} {ps : List Str} {sp : Sp} {x : Str} {p pos : Pos} {e : Expr} {es : List Expr} {t : TA}
/-- f(e, ..) of such a def -/
theorem pe_callG (F : FnG X.prog X.w X.K X.mg X.base k f fd ps sp) (hA : Clr X.A) (hr : Room k X.A) (hg : Gl X x)
    (hm : X.mg x = some (.ref f)) (hk : PySem.W.keepIn X.K (.ref f) = true) (hb : Binds X.K fd ps []) (ha : PA X (e :: es) t)
    (hdb : (x == ("__debug__" : Str)) = false := by decide)
    (he : starEach (e :: es) X.env = (false, eval e X.env) :: starEach es X.env := by rfl)
    (hpl : (backTo pos (starEach es X.env)).any (·.1) = false := by rfl) :
    PE X (.Call (.Name x p) (e :: es) [] pos) (tCall sp [] E0 t) := by
  constructor
  intro pins s σ H Q I h
  apply wpAny_Call_Name_kw
  apply ld_glob I hg hm _ hdb
  apply PySem.W.callWith_K (h₀ := X.base) I.ok.mod.kin hk _ he hpl
  apply thn (ha.run pos pins s σ H _ I h)
  rintro us s1 ⟨vs, H1, J, r, q⟩
  refine ⟨J.kIn, wpAny_call ?_⟩
  have q' : sp vs H1 Q E0 := by rw [List.append_nil] at q; exact q
  have hl : (us ++ []).length = ps.length := by rw [List.append_nil, ← r.length]; exact F.num _ _ _ _ q'
  have hbd := hb s1 us J.kIn hl
  rw [List.append_nil] at hbd
  apply codeAny_mono (F.go X.A X.stack s1 H1 ⟨us, []⟩ us vs Q E0 hA hr J.env0 hbd r q')
  intro r' s' z
  match r', z with
  | .error _, z => exact z.elim
  | .ok (.ret u), z => exact J.after z
  | .ok .next, z => exact z.elim
  | .ok .brk, z => exact z.elim
  | .ok .cont, z => exact z.elim
/-- repr(a list or tuple of data) -/
def rShown (K : PySem.W.Frag) : List V → Hp → VK → Prop := fun xs H Q => ∃ (v : V) (d : PyData), xs = [v] ∧ (∃ a, v = .ref a) ∧
    Dp K H v d ∧ d.showable = true ∧ d.hasDict = false ∧ d.depth ≤ 60 ∧ d.shown.length ≤ sizeLine ∧ Q (.str d.shown) H
theorem call_shown (hA : Clr X.A) (hu : X.A.units + 64 < cLine) : CallR X (.builtin "repr") (rShown X.K) := by
  intro pn s σ H xs us Q J r h
  obtain ⟨v, d, rfl, ⟨a, rfl⟩, hd, h1, h2, h3, h4, q⟩ := h
  cases r with
  | cons r1 r2 =>
    cases r2
    cases r1
    obtain ⟨as, rd⟩ := Dp.reads J d _ _ hd rfl
    exact repr_of_reads' rd h1 (PyData.noDict_hsm h2) hA (by omega) (fun _ _ z => z) (fun h' u tk hk => ⟨.str _, H, J.kept hk, ⟨_, rfl⟩, q⟩) h4
/-- what e gives stays locked from there on -/
theorem pe_frz {te : TE} (h : PE X e te) : PE X e (fun σ H Q => te σ H fun v H1 => ∃ d u, H1 d = some u ∧ Mut (some u) ∧ ∀ od, Q v (upd H1 d (.frz od u))) := by
  constructor
  intro pins s σ H Q I hw
  apply thn (h.run pins s σ H _ I hw)
  rintro v s1 ⟨x, H1, J, r, d, u, hd, mu, q⟩
  obtain ⟨od, J2⟩ := J.lock hd mu
  exact ⟨x, _, J2, r, q od⟩
end
section
variable {P : Program} {w : World} {K : PySem.W.Frag} {mg : Str → Option Value} {base : Heap}
/-- such a def by its body -/
theorem okG {x qual : Str} {st : Stmt} {f : Addr} {fd : FuncData} {N ps : List Str} {k : Nat} {sp : Sp} (F : Fun K x qual st f fd)
    (S : FnScope N ps (defScope st)) (num : ∀ vs H Q E, sp vs H Q E → vs.length = ps.length)
    (hb : ∀ (cdv : Value) (A : Around) (fr : List Env) (s : Shared) (H : Hp) (vs : List V) (Q : VK) (E : XK), Clr A →
      Room k (A.deeper (envOfC qual (defScope st) s.heap.objs.size f cdv)) → sp vs H Q E →
      ∃ t, PSs (cxOf CX0 P w K mg base N qual (defScope st) f cdv A fr s H E).nox (defBody st) t ∧ t { nx := fun _ H' => Q .non H', rt := Q } (start N vs) H) :
    FnG P w K mg base (k + 1) f fd ps sp := by
  obtain ⟨oc, od, kV, doc, pm, an, cdv, ct, osl, rfl, lk, hcd⟩ := F.ex
  refine ⟨num, ?_⟩
  intro A fr s H ar us vs Q E hA hr e0 hbd r hsp
  have kept : ∀ b o, base.get? b = some o → s.heap.get? b = some o := fun b o z => (e0.bs b o z).1
  have hK := e0.mod.kin.keeps kept
  refine codeAny_call_function hr.depth (hK _ _ lk) rfl S.co S.gen rfl (PySem.W.codeRec_of hK hcd) (hbd _ _ _ _ ?_)
  refine wpAny_newFunctionEnv_cells S.kind ?_ ?_
  · rintro ⟨n, v⟩ hy
    exact (S.par n (List.of_mem_zip hy).1).imp (fun z => z) fun z => ⟨z, PySem.W.cellsFrom_some _ _ _ (.inl z)⟩
  intro env he s1 ic
  subst he
  refine ⟨(e0.mod.nolimit.keeps kept).keeps ic.toInCall.keep, codeAny_func ?_⟩
  obtain ⟨t, ht, hq⟩ := hb cdv A fr s H vs Q E hA (hr.deeper _) hsp
  have J : Inv (cxOf CX0 P w K mg base N qual (defScope st) f cdv A fr s H E) [] (start N vs) H s1 := inv_start S hr.hd e0 (num _ _ _ _ hsp) r ic
  apply wpAny_mono (ht.nox.run [] s1 (start N vs) H _ J hq) _ fun _ _ z => z
  intro fl s' z
  match fl, z with
  | .ret u, ⟨v, σ', H', J', rv, q⟩ => exact ⟨v, H', J'.os, J'.bare, J'.base, J'.hok, rv, q⟩
  | .next, ⟨σ', H', J', q⟩ => exact ⟨.non, H', J'.os, J'.bare, J'.base, J'.hok, rfl, q⟩
  | .brk, ⟨_, _, _, q⟩ => exact q.elim
  | .cont, ⟨_, _, _, q⟩ => exact q.elim
end
/-- the script alone is tracked, locked, unless the module itself holds it -/
def scriptH (K : PySem.W.Frag) (a : Addr) (vs : List Value) (ns : List Int) : Hp := fun b =>
  if b = a ∧ K.lookup a = none then some (.frz { cls := .type "list", data := .seq vs.toArray } (.lst (ns.map V.int))) else none
theorem scriptH_some {K : PySem.W.Frag} {a b : Addr} {vs : List Value} {ns : List Int} {o : HO} (h : scriptH K a vs ns b = some o) :
    b = a ∧ K.lookup a = none ∧ o = .frz { cls := .type "list", data := .seq vs.toArray } (.lst (ns.map V.int)) := by
  unfold scriptH at h
  by_cases c : b = a ∧ K.lookup a = none
  · rw [if_pos c] at h
    exact ⟨c.1, c.2, (Option.some.inj h).symm⟩
  · rw [if_neg c] at h
    cases h
theorem lawG {P : Program} {w : World} {K : PySem.W.Frag} {mg mb : Str → Option Value} {k : Nat} {fa a : Addr} {fd : FuncData} {x : Str} {sp : Sp} {s₁ : Shared} {vs : List Value} {ns : List Int}
    (KX : K.In s₁.heap) (g1 : s₁.heap.Ns mainGlobals mg) (g2 : s₁.heap.Ns builtinsNs mb) (g3 : ∀ x : Str, x ≠ "__name__" → mb x = bootBuiltins x) (g4 : s₁.heap.NoLimit) (g5 : s₁.gens = #[])
    (ha : s₁.heap.get? a = some { cls := .type "list", data := .seq vs.toArray }) (hi : IntsAre vs ns) (hl : ns.length ≤ sizeLine) (hr : Room k callerA)
    (F : ∀ base : Heap, K.In base → base.Ns mainGlobals mg → FnG P w K mg base k fa fd [x] sp) (hbd : ∀ (s : Shared) (u : Value), BindsTo s fd ⟨[u], []⟩ [(x, u)])
    (hsp : ∀ H : Hp, SqL K H a (ns.map V.int) → sp [.ref a] H (fun v _ => v = .bl true) E0) :
    codeAny (model P w) callerA (.call (.ref fa) ⟨[.ref a], []⟩) (fun r s' => r = .ok (.ret (.bool true)) ∧ OldK s₁.heap s'.heap ∧ s'.os = s₁.os ∧ AllBare s'.gens) s₁ := by
  have rv : Vals (ns.map V.int) vs := vals_ints hi
  have n1 : vs.length = ns.length := hi.length
  let H := scriptH K a vs ns
  have hok : HOk P w H s₁.heap := by
    intro b o z
    obtain ⟨rfl, _, rfl⟩ := scriptH_some z
    exact ⟨ha, by rw [List.length_map]; exact hl, vs, _, rv, ha⟩
  have hS : SqL K H a (ns.map V.int) := by
    cases c : K.lookup a with
    | none => exact .inl (.inr ⟨_, if_pos ⟨rfl, c⟩⟩)
    | some o =>
      have z := KX a o c
      rw [ha] at z
      cases z
      exact .inr ⟨_, vs.toArray, _, c, rfl, rfl, rfl, by rw [List.size_toArray, n1]; exact hl, by simpa using rv⟩
  have away : ∀ {b : Addr} {o : Obj}, s₁.heap.get? b = some o → (∀ q n, o.data ≠ .seq q n) ∨ K.lookup b ≠ none → H b = none := by
    intro b o z hb
    cases q : H b with
    | none => rfl
    | some u =>
      obtain ⟨rfl, c, rfl⟩ := scriptH_some q
      rw [ha] at z
      cases z
      rcases hb with hb | hb
      · exact absurd rfl (hb _ _)
      · exact absurd c hb
  have nsK : ∀ {b : Addr} {m : Str → Option Value}, s₁.heap.Ns b m → (hidT s₁.heap H).Ns b m := by
    rintro b m ⟨o, es, ep, z, d, r⟩
    exact ⟨o, es, ep, hidT_get z (away z (.inl fun q n y => by rw [d] at y; cases y)), d, r⟩
  have hKb : K.In (hidT s₁.heap H) := fun b o z => hidT_get (KX b o z) (away (KX b o z) (.inr (by rw [z]; exact Option.some_ne_none _)))
  obtain ⟨mc, g6, g7⟩ := g4
  have e0 : Env0 P w K mg (hidT s₁.heap H) callerA [] s₁ H := {
    frames := rfl
    mod := ⟨hKb, nsK g1, ⟨mb, nsK g2, g3⟩, ⟨mc, nsK g6, g7⟩⟩
    bs := fun b o z => of_hidT z
    bsz := Nat.le_of_eq (hidT_size _ _)
    funs := trivial
    frf := fun b z => absurd (show b ∈ ([] : List Addr) from z) List.not_mem_nil
    hok := hok
    bare := .of_eq g5 }
  apply codeAny_mono ((F _ hKb (nsK g1)).go callerA [] s₁ H ⟨[.ref a], []⟩ [.ref a] [.ref a] _ _ rfl hr e0 (hbd s₁ (.ref a)) (.cons rfl .nil) (hsp H hS))
  intro r s' z
  match r, z with
  | .error _, z => exact z.elim
  | .ok .next, z => exact z.elim
  | .ok .brk, z => exact z.elim
  | .ok .cont, z => exact z.elim
  | .ok (.ret u), ⟨v, H', os, bare, un, hok', r', q⟩ =>
    obtain rfl : v = .bl true := q
    obtain rfl : u = Value.bool true := r'
    refine ⟨rfl, OldK.of_keep ?_, os, bare⟩
    intro b o z
    cases c : H b with
    | none => exact un.keep b o z c (fun y => absurd (show b ∈ ([] : List Addr) from y) List.not_mem_nil) List.not_mem_nil
    | some o' =>
      obtain ⟨_, _, rfl⟩ := scriptH_some c
      have c1 := (hok b _ c).1
      have c2 := (hok' b _ (un.frzs b _ _ c)).1
      rw [z] at c1
      cases c1
      exact c2
/-- the goal behind k_head -/
theorem walkG {l : PySem.W.OpenLaw} {n k : Nat} {q : Program} {loose : List Str} {XP : (Str → Option Value) → Heap → Prop} {YP : World → Heap → Prop} {d : DefRec} {K : Params → PySem.W.Frag} {sp : World → Sp} {x : Str}
    (hn : l.most = some n) (hn2 : n ≤ sizeLine) (hdf : d.params.defaults = []) (hr : Room k callerA) (hY : ∀ (w : World) (h : Heap), YP w h → (K w.params).In h)
    (F : ∀ (w : World) (mg : Str → Option Value) (fa : Addr) (h : Heap), (K w.params).In h → h.Ns mainGlobals mg → mg d.name = some (.ref fa) →
      ∃ fd : FuncData, (∀ (s : Shared) (u : Value), BindsTo s fd ⟨[u], []⟩ [(x, u)]) ∧ ∀ base : Heap, (K w.params).In base → base.Ns mainGlobals mg → FnG l.prog w (K w.params) mg base k fa fd [x] (sp w))
    (hsp : ∀ (w : World) (H : Hp) (a : Addr) (ns : List Int), ns.length ≤ n → SqL (K w.params) H a (ns.map V.int) → sp w [.ref a] H (fun v _ => v = .bl true) E0) :
    PySem.W.WalkO q loose XP YP l.row.toRowW d [] (fun f vs => PySem.call f vs) := by
  apply Att.attach_call hn hdf
  intro w s₀ s₁ mg mb fa o pm cd doc a vs ns G Y ho hd hcd hmg hobj hints hlen hg
  obtain ⟨fd, hb, hF⟩ := F w mg fa _ (hY w _ Y) G.T.g hmg
  exact lawG (hY w _ Y) G.T.g G.T.b G.T.builtins G.T.nolimit hg hobj hints (Nat.le_trans hlen hn2) hr hF hb fun H hS => hsp w H a ns hlen hS
end GS
namespace GS
open PySem PySem.Spec PyProof.Rows L2 RZ
/-! what the built-in names stand for -/
theorem bt_len : bootBuiltins "len" = some (.builtin "len") := by decide +kernel
theorem bt_abs : bootBuiltins "abs" = some (.builtin "abs") := by decide +kernel
theorem bt_max : bootBuiltins "max" = some (.builtin "max") := by decide +kernel
theorem bt_min : bootBuiltins "min" = some (.builtin "min") := by decide +kernel
theorem bt_sum : bootBuiltins "sum" = some (.builtin "sum") := by decide +kernel
theorem bt_all : bootBuiltins "all" = some (.builtin "all") := by decide +kernel
theorem bt_any : bootBuiltins "any" = some (.builtin "any") := by decide +kernel
theorem bt_repr : bootBuiltins "repr" = some (.builtin "repr") := by decide +kernel
theorem bt_isinstance : bootBuiltins "isinstance" = some (.builtin "isinstance") := by decide +kernel
theorem bt_int : bootBuiltins "int" = some (.type "int") := by decide +kernel
theorem bt_bool : bootBuiltins "bool" = some (.type "bool") := by decide +kernel
theorem bt_tuple : bootBuiltins "tuple" = some (.type "tuple") := by decide +kernel
theorem bt_list : bootBuiltins "list" = some (.type "list") := by decide +kernel
theorem bt_str : bootBuiltins "str" = some (.type "str") := by decide +kernel
theorem bt_dict : bootBuiltins "dict" = some (.type "dict") := by decide +kernel
/-! heaps: all but p is kept -/
def Kp (p : Addr) (H H' : Hp) : Prop := ∀ b o, b ≠ p → H b = some o → H' b = some o
theorem Kp.refl (p : Addr) (H : Hp) : Kp p H H := fun _ _ _ h => h
theorem Kp.trans {p : Addr} {H H1 H2 : Hp} (a : Kp p H H1) (b : Kp p H1 H2) : Kp p H H2 := fun c o n h => b c o n (a c o n h)
theorem Kp.of {p : Addr} {H H' : Hp} (s : Same H H') : Kp p H H' := fun b o _ h => s b o h
theorem kp_upd {p : Addr} {H : Hp} {o : HO} : Kp p H (upd H p o) := fun b u n h => by rw [upd_ne n]; exact h
theorem kp_new {p q : Addr} {H : Hp} {o : HO} (h : H q = none) : Kp p H (upd H q o) := fun b u n e => by rw [upd_ne (ne_of_none e h)]; exact e
theorem same_new {q : Addr} {H : Hp} {o : HO} (h : H q = none) : Same H (upd H q o) := fun b u e => by rw [upd_ne (ne_of_none e h)]; exact e
theorem sameT {K : PySem.W.Frag} {H H' : Hp} {a : Addr} {xs : List V} (e : Same H H') (h : SqT K H a xs) : SqT K H' a xs := by
  rcases h with (h | ⟨o, h⟩) | h
  · exact .inl (.inl (e _ _ h))
  · exact .inl (.inr ⟨o, e _ _ h⟩)
  · exact .inr h
/-! zip of two tuples -/
theorem walk_zipT {K : PySem.W.Frag} {a b : Addr} {xs ys : List V} : Walk (ItzT K a b) (min xs.length ys.length) (fun H => SqT K H a xs ∧ SqT K H b ys) (YPair (fun i => xs[i]?) (fun i => ys[i]?)) := by
  constructor
  · intro i H hi q
    exact ⟨xs, ys, xs[i]'(by omega), ys[i]'(by omega), q.1, q.2, by simp [show i < xs.length by omega], by simp [show i < ys.length by omega]⟩
  · intro H q
    exact ⟨xs, ys, q.1, q.2, by omega⟩
  · rintro i H v H' hi q ⟨T, x, y, h1, h2, h3, h4, h5⟩
    exact ⟨T, x, y, h1, h2, h3, h4 xs q.1, h5 ys q.2⟩
/-! a list that a comprehension makes: its turns so far -/
def Grow (H0 : Hp) (D : Addr) (acc : Nat → List V) (i : Nat) (H : Hp) : Prop := Same H0 H ∧ H D = some (.lst (acc i))
theorem Grow.start {H0 : Hp} {D : Addr} {acc : Nat → List V} (nD : H0 D = none) (h : acc 0 = []) : Grow H0 D acc 0 (upd H0 D (.lst [])) :=
  ⟨same_new nD, by rw [upd_same, h]⟩
theorem Grow.put {H0 H H4 : Hp} {D : Addr} {acc : Nat → List V} {i : Nat} {y : V} (g : Grow H0 D acc i H) (nD : H0 D = none) (s : Same H H4) (h : acc (i + 1) = acc i ++ [y]) :
    Grow H0 D acc (i + 1) (upd H4 D (.lst (acc i ++ [y]))) := by
  refine ⟨fun b o e => ?_, by rw [upd_same, h]⟩
  rw [upd_ne (ne_of_none e nD)]
  exact s _ _ (g.1 _ _ e)
theorem Grow.skip {H0 H H4 : Hp} {D : Addr} {acc : Nat → List V} {i : Nat} (g : Grow H0 D acc i H) (s : Same H H4) (h : acc (i + 1) = acc i) : Grow H0 D acc (i + 1) H4 :=
  ⟨g.1.trans s, by rw [h]; exact s _ _ g.2⟩
/-! data that is shown: of at most n signs, at most k deep -/
structure Sm (n k : Nat) (d : PyData) : Prop where
  a : d.showable = true
  b : d.hasDict = false
  c : d.depth ≤ k
  d : d.shown.length ≤ n
theorem Sm.int {i : Int} (h : i.natAbs < 10 ^ 12) : Sm 13 0 (.int i) := by
  refine ⟨?_, rfl, Nat.le_refl _, PyData.shown_int_le h⟩
  show decide (i.natAbs.log2 < 1920) = true
  exact decide_eq_true (log2_small (Nat.lt_of_lt_of_le h (Nat.le_trans (show 10 ^ 12 ≤ 2 ^ 40 by decide) (Nat.pow_le_pow_right (by decide) (by decide)))))
theorem Sm.more {n n' k k' : Nat} {d : PyData} (h : Sm n k d) (h1 : n ≤ n') (h2 : k ≤ k') : Sm n' k' d := ⟨h.a, h.b, Nat.le_trans h.c h2, Nat.le_trans h.d h1⟩
theorem sm_all {n k : Nat} : ∀ {ds : List PyData}, (∀ d ∈ ds, Sm n k d) → PyData.showableAll ds = true ∧ PyData.hasDictAll ds = false ∧ PyData.depthAll ds ≤ k ∧ ((PyData.shownAll ds).map (·.length)).sum ≤ n * ds.length ∧ (PyData.shownAll ds).length = ds.length
  | [], _ => ⟨rfl, rfl, Nat.zero_le _, Nat.zero_le _, rfl⟩
  | d :: ds, h => by
    obtain ⟨h1, h2, h3, h4, h5⟩ := sm_all (ds := ds) fun e m => h e (List.mem_cons_of_mem _ m)
    have q := h d List.mem_cons_self
    refine ⟨by simp only [PyData.showableAll, q.a, h1, Bool.and_self], by simp only [PyData.hasDictAll, q.b, h2, Bool.or_self], ?_, ?_, by simp only [PyData.shownAll, List.length_cons, h5]⟩
    · simp only [PyData.depthAll]
      have := q.c
      omega
    · simp only [PyData.shownAll, List.map_cons, List.sum_cons, List.length_cons]
      have e := q.d
      rw [Nat.mul_add]
      omega
theorem Sm.tuple {n k : Nat} {ds : List PyData} (h : ∀ d ∈ ds, Sm n k d) : Sm (n * ds.length + 2 * ds.length + 3) (k + 1) (.tuple ds) := by
  obtain ⟨h1, h2, h3, h4, h5⟩ := sm_all h
  refine ⟨by simpa only [PyData.showable] using h1, by simpa only [PyData.hasDict] using h2, by simp only [PyData.depth]; omega, ?_⟩
  simp only [PyData.shown]
  have := tupleText_len_le (PyData.shownAll ds)
  rw [h5] at this
  omega
theorem Sm.list {n k : Nat} {ds : List PyData} (h : ∀ d ∈ ds, Sm n k d) : Sm (n * ds.length + 2 * ds.length + 3) (k + 1) (.list ds) := by
  obtain ⟨h1, h2, h3, h4, h5⟩ := sm_all h
  refine ⟨by simpa only [PyData.showable] using h1, by simpa only [PyData.hasDict] using h2, by simp only [PyData.depth]; omega, ?_⟩
  simp only [PyData.shown]
  have := listText_len_le (PyData.shownAll ds)
  rw [h5] at this
  omega
theorem sm_ints {B : Nat} {xs : List Int} (h : ∀ x ∈ xs, x.natAbs ≤ B) (hB : B < 10 ^ 12) : ∀ d ∈ xs.map PyData.int, Sm 13 0 d := by
  intro d m
  obtain ⟨x, hx, rfl⟩ := List.mem_map.mp m
  exact Sm.int (Nat.lt_of_le_of_lt (h x hx) hB)
theorem dpAll_ints {K : PySem.W.Frag} {H : Hp} : ∀ xs : List Int, DpAll K H (xs.map V.int) (xs.map PyData.int)
  | [] => .nil
  | x :: xs => .cons (.int x) (dpAll_ints xs)
theorem dp_tup {K : PySem.W.Frag} {H : Hp} {a : Addr} {xs : List Int} (h : SqT K H a (xs.map V.int)) : Dp K H (.ref a) (.tuple (xs.map PyData.int)) := .tup h (dpAll_ints xs)
theorem dp_lst {K : PySem.W.Frag} {H : Hp} {a : Addr} {xs : List Int} (h : SqL K H a (xs.map V.int)) : Dp K H (.ref a) (.list (xs.map PyData.int)) := .lst h (dpAll_ints xs)
theorem canLay_ints : ∀ xs : List Int, PyData.canLayAll0 (xs.map PyData.int) = true ∧ PyData.depthAll (xs.map PyData.int) = 0
  | [] => ⟨rfl, rfl⟩
  | x :: xs => by
    obtain ⟨h1, h2⟩ := canLay_ints xs
    constructor
    · simp only [List.map_cons, PyData.canLayAll0, PyData.canLay0, h1, Bool.and_self]
    · simp only [List.map_cons, PyData.depthAll, PyData.depth, h2, Nat.max_self]
theorem shaped_lst (xs : List Int) : SeqAt.shaped (.list (xs.map PyData.int)) = true := by
  obtain ⟨h1, h2⟩ := canLay_ints xs
  unfold SeqAt.shaped
  rw [Bool.and_eq_true, decide_eq_true_eq]
  exact ⟨by simp only [PyData.canLay0, h1], by simp only [PyData.depth, h2]; omega⟩
theorem shaped_tup (xs : List Int) : SeqAt.shaped (.tuple (xs.map PyData.int)) = true := by
  obtain ⟨h1, h2⟩ := canLay_ints xs
  unfold SeqAt.shaped
  rw [Bool.and_eq_true, decide_eq_true_eq]
  exact ⟨by simp only [PyData.canLay0, h1], by simp only [PyData.depth, h2]; omega⟩
theorem eqvAll_ints : ∀ xs ys : List Int, PyData.eqvAll (xs.map PyData.int) (ys.map PyData.int) = decide (xs = ys)
  | [], [] => by simp [PyData.eqvAll]
  | [], _ :: _ => by simp [PyData.eqvAll]
  | _ :: _, [] => by simp [PyData.eqvAll]
  | x :: xs, y :: ys => by
    simp only [List.map_cons, PyData.eqvAll, PyData.eqv, eqvAll_ints xs ys, List.cons.injEq]
    by_cases h : x = y
    · subst h; simp
    · simp [h]
theorem small_line {n : Nat} (h : n ≤ 100000) : n ≤ sizeLine := by rw [sizeLine_eq]; omega
theorem small_lt {n : Nat} (h : n ≤ 100000) : n < sizeLine := by rw [sizeLine_eq]; omega
theorem at_get {xs : List V} {i : Int} {v : V} (h0 : 0 ≤ i) (h : xs[i.toNat]? = some v) : atI xs i = some v := by
  have e : i = ((i.toNat : Nat) : Int) := by omega
  rw [e]
  exact atI_nat h
theorem ix_in {n : Nat} {i : Int} (h0 : 0 ≤ i) (h1 : i < n) : ixN n i = some i.toNat := by
  unfold ixN
  rw [if_pos h0, if_pos h1]
end GS
namespace GS
open PySem PySem.Spec PyProof.Rows L2 RZ
/-! t * k: the same tuple for 1, an empty one for 0 -/
theorem tmul_same (l : Addr) (items : Array Value) (n : Nat) (dd : Option Addr) (sl : Array (Option Value)) (u : Tok) :
    Meets (Builtin.«tuple.__mul__» ⟨[.ref l, .int 1 u], []⟩) (fun _ R s => s.heap.get? l = some { cls := .type "tuple", dict := dd, data := .seq items n, slots := sl } ∧ R (.ok (.ret (Value.ref l))) s) :=
  .of_wp fun prog w A R s h => by
    obtain ⟨hp, g, d, tk, os⟩ := s
    obtain ⟨hl, h⟩ := h
    have f1 := AutoSeq1.idx_int
    wp_walk using wpAny_loadPart' hl
    repeat (first
      | (refine wpAny_ite_false (by decide) ?_; wp_walk using wpAny_loadPart' hl)
      | (refine wpAny_ite_true (decide_eq_true (Bool.or_true _)) ?_; wp_walk using wpAny_loadPart' hl)
      | (refine wpAny_ite_true (by decide) ?_; wp_walk using wpAny_loadPart' hl))
    exact ⟨_, rfl, h⟩
theorem tmul_none (l : Addr) (items : Array Value) (n : Nat) (dd : Option Addr) (sl : Array (Option Value)) (u : Tok) (c1 : items.isEmpty = false) :
    Meets (Builtin.«tuple.__mul__» ⟨[.ref l, .int 0 u], []⟩) (fun _ R s => s.heap.get? l = some { cls := .type "tuple", dict := dd, data := .seq items n, slots := sl } ∧
      R (.ok (.ret (Value.ref s.heap.objs.size))) { s with heap := s.heap.push { cls := Value.type "tuple", data := Data.seq #[] }, toks := s.toks }) :=
  .of_wp fun prog w A R s h => by
    obtain ⟨hp, g, d, tk, os⟩ := s
    obtain ⟨hl, h⟩ := h
    have f1 := AutoSeq1.idx_int
    wp_walk using wpAny_loadPart' hl
    repeat (first
      | (refine wpAny_ite_false (by decide) ?_; wp_walk using wpAny_loadPart' hl)
      | (refine wpAny_ite_false (decide_eq_false (by rw [c1]; decide)) ?_; wp_walk using wpAny_loadPart' hl)
      | (refine wpAny_ite_true (by decide) ?_; wp_walk using wpAny_loadPart' hl))
    exact ⟨_, rfl, h⟩
def rRepA (K : PySem.W.Frag) : R2 := fun x y H Q => ∃ l k xs, x = .ref l ∧ y = .int k ∧ H l = some (.tup xs) ∧ xs ≠ [] ∧ 0 ≤ k ∧ k ≤ 1000 ∧ xs.length ≤ 1000 ∧
  ∀ H' c, Same H H' → H' c = some (.tup (List.replicate k.toNat xs).flatten) → Q (.ref c) H'
section
variable {X : Cx}
theorem op_repA : OpR X (binaryOp .Mult) (rRepA X.K) := by
  intro pn s σ H x y v u Q J rx ry h
  obtain ⟨l, k, xs, rfl, rfl, hl, hne, h0, h2, hz, q⟩ := h
  have hT : SqT X.K H l xs := SqT.of hl
  by_cases hk : 2 ≤ k
  · exact op_repT pn s σ H _ _ v u Q J rx ry ⟨l, k, xs, rfl, rfl, hT, hne, hk, h2, hz, fun p np => q _ p (same_new np) upd_same⟩
  cases rx
  obtain ⟨t, rfl⟩ := ry
  obtain ⟨its, r, ⟨⟨cls, dd, data, sl⟩, ho, hc, n, hd⟩, hs⟩ := J.tuple hT
  simp only at hc hd
  subst hc hd
  have hi : its.toArray.isEmpty = false := by
    cases its with
    | nil => exact absurd (List.eq_nil_of_length_eq_zero r.length) hne
    | cons a b => rfl
  rcases (show k = 0 ∨ k = 1 by omega) with rfl | rfl
  · refine wpAny_binaryOp_repeat_ref (T := "tuple") (U := "int") (by decide) ⟨_, ho, rfl⟩ (fun s' => typeIs_int s' 0 t) noFill_tuple_mul F.fills_int_mul F.slot_int_rmul repeat_tuple F.slot_int_index.lookup
      (call_meets F.slot_int_rmul (typeIs_int s 0 t) F.entry_int_rmul (F.args_int_rmul_2 _ _) (int_rmul_tuple 0 t l its.toArray n dd sl)
        ⟨ho, rfl, ⟨_, ho, rfl⟩, call_meets F.slot_tuple_mul ⟨_, ho, rfl⟩ F.entry_tuple_mul (F.args_tuple_mul_2 _ _) (tmul_none l its.toArray n dd sl t hi) ⟨ho, ?_⟩⟩)
    refine ⟨.ref s.heap.objs.size, _, J.laid (t' := s.toks) (o := .tup []) (fun b ob z => Heap.get?_push_of_some _ z) (Nat.le_refl _) ?_, rfl, q _ _ (same_new (J.hok.fresh (Nat.le_refl _))) upd_same⟩
    exact ⟨Nat.zero_le _, [], .nil, IsTup.new _ _⟩
  · refine wpAny_binaryOp_repeat_ref (T := "tuple") (U := "int") (by decide) ⟨_, ho, rfl⟩ (fun s' => typeIs_int s' 1 t) noFill_tuple_mul F.fills_int_mul F.slot_int_rmul repeat_tuple F.slot_int_index.lookup
      (call_meets F.slot_int_rmul (typeIs_int s 1 t) F.entry_int_rmul (F.args_int_rmul_2 _ _) (int_rmul_tuple 1 t l its.toArray n dd sl)
        ⟨ho, rfl, ⟨_, ho, rfl⟩, call_meets F.slot_tuple_mul ⟨_, ho, rfl⟩ F.entry_tuple_mul (F.args_tuple_mul_2 _ _) (tmul_same l its.toArray n dd sl t) ⟨ho, ?_⟩⟩)
    refine ⟨.ref l, H, J, rfl, q H l (Same.refl _) ?_⟩
    have e : (List.replicate (1 : Int).toNat xs).flatten = xs := by simp
    rw [e]
    exact hl
/-- sum of a tuple of ints -/
theorem cr_sumT (hc : X.calm = true) : CallR X (.builtin "sum") (fun vs H Q => ∃ (a : Addr) (ns : List Int), vs = [V.ref a] ∧ SqT X.K H a (ns.map V.int) ∧ Q (.int ns.sum) H) := by
  intro pn s σ H vs us Q J r h
  obtain ⟨a, ns, rfl, hs, q⟩ := h
  obtain ⟨its, rv, p, _⟩ := J.tuple hs
  rw [Vals.ref1 r]
  have hn : its.length = ns.length := by rw [← rv.length, List.length_map]
  have hT : s.heap.IsTuple a its.toArray := p
  refine call_sum_walkG (wpAny_pyIter_tuple hT ?_)
  have hlt : a < s.heap.objs.size := by obtain ⟨o, ho, _⟩ := hT; exact Heap.lt_size ho
  refine ⟨s.heap.objs.size, _, _, _, _, _, fun i => ns.getD i 0, rfl, Walks.tuple (A := X.A.in1) (J.ok.hd hc) _ a (Nat.ne_of_lt hlt) its.toArray, ⟨⟨_, Heap.get?_push_size _ rfl, rfl, rfl⟩, ?_⟩, ?_, ?_, ?_⟩
  · obtain ⟨o, ho, z⟩ := hT
    exact ⟨o, Heap.get?_push_of_some _ ho, z⟩
  · intro b hb
    have e : b = s.heap.objs.size ∨ b = a := by simpa using hb
    have : (s.heap.push { cls := .type "tuple_iterator", data := .fields #[.ref a, .int 0 0] }).objs.size = s.heap.objs.size + 1 := Heap.size_push ..
    show b < (s.heap.push { cls := .type "tuple_iterator", data := .fields #[.ref a, .int 0 0] }).objs.size
    rw [this]
    rcases e with e | e
    · rw [e]
      exact Nat.lt_succ_self _
    · rw [e]
      exact Nat.lt_succ_of_lt hlt
  · intro i v hv
    have hv' : its[i]? = some v := by simpa using hv
    have hi : i < ns.length := by
      have := (List.getElem?_eq_some_iff.mp hv').1
      omega
    obtain ⟨u, hu, ru⟩ := rv.get (i := i) (x := .int ns[i]) (by rw [List.getElem?_map, List.getElem?_eq_getElem hi]; rfl)
    rw [hv'] at hu
    cases hu
    obtain ⟨t, rfl⟩ := ru
    refine ⟨t, ?_⟩
    show Value.int ns[i] t = Value.int (ns.getD i 0) t
    rw [List.getD_eq_getElem?_getD, List.getElem?_eq_getElem hi]
    rfl
  · intro h' tk t' hk
    have e : preSum (fun i => ns.getD i 0) its.toArray.size = ns.sum := by
      rw [preSum_getD, List.size_toArray, hn, List.take_of_length_le (Nat.le_refl _)]
    rw [e]
    refine ⟨.int _, H, J.kept fun b o z => hk b o ?_ (Heap.get?_push_of_some _ z), ⟨_, rfl⟩, q⟩
    intro y
    have : b = s.heap.objs.size := by simpa using y
    exact absurd (Heap.lt_size z) (by rw [this]; exact Nat.lt_irrefl _)
end
theorem cut_take {xs : List V} {i : Int} (h : 0 ≤ i) : cutV xs none (some i) = xs.take i.toNat := by
  obtain ⟨k, rfl⟩ : ∃ k : Nat, i = k := ⟨i.toNat, by omega⟩
  unfold cutV
  rw [HT.sIx_none, HT.sIx_nat, Int.toNat_natCast, List.drop_zero, Nat.sub_zero]
  rcases Nat.le_total k xs.length with z | z
  · rw [Nat.min_eq_left z]
  · rw [Nat.min_eq_right z, List.take_of_length_le (Nat.le_refl _), List.take_of_length_le z]
theorem cut_drop {xs : List V} {i : Int} (h : 0 ≤ i) : cutV xs (some i) none = xs.drop i.toNat := by
  obtain ⟨k, rfl⟩ : ∃ k : Nat, i = k := ⟨i.toNat, by omega⟩
  unfold cutV
  rw [HT.sIx_none, HT.sIx_nat, Int.toNat_natCast]
  rcases Nat.le_total k xs.length with z | z
  · rw [Nat.min_eq_left z]
    exact List.take_of_length_le (by rw [List.length_drop]; exact Nat.le_refl _)
  · rw [Nat.min_eq_right z, List.drop_of_length_le (Nat.le_refl _), List.drop_of_length_le z]
    simp
theorem rd_slA {K : PySem.W.Frag} {H : Hp} {a : Addr} {xs : List V} {lo hi : Option Int} {Q : VK} (ha : H a = some (.tup xs)) (h : ∀ H' c, Same H H' → H' c = some (.tup (cutV xs lo hi)) → Q (.ref c) H') :
    rSlA K (.ref a) lo hi H Q := by
  refine ⟨a, xs, rfl, SqT.of ha, fun z => h H a (Same.refl _) ?_, fun _ p np => h _ p (same_new np) upd_same⟩
  rw [ha]
  unfold cutV
  rw [z.1, z.2, List.drop_zero, Nat.sub_zero, List.take_of_length_le (Nat.le_refl _)]
theorem rd_catA {K : PySem.W.Frag} {H : Hp} {a b : Addr} {xs ys : List V} {Q : VK} (ha : H a = some (.tup xs)) (hb : H b = some (.tup ys)) (hl : xs.length + ys.length ≤ sizeLine) (h : ∀ H' c, Same H H' → H' c = some (.tup (xs ++ ys)) → Q (.ref c) H') :
    rCatA K (.ref a) (.ref b) H Q :=
  ⟨a, b, xs, ys, rfl, rfl, SqT.of ha, SqT.of hb, hl, fun z => h H b (Same.refl _) (by rw [hb, z]; rfl), fun _ z => h H a (Same.refl _) (by rw [ha, z, List.append_nil]), fun _ _ p np => h _ p (same_new np) upd_same⟩
/-! by named readings, for comprehensions' blocks -/
def rLenS (K : PySem.W.Frag) : List V → Hp → VK → Prop := fun xs H Q => ∃ p ys, xs = [.ref p] ∧ (SqL K H p ys ∨ SqT K H p ys) ∧ Q (.int ys.length) H
theorem len_seq {X : Cx} : CallR X (.builtin "len") (rLenS X.K) := call_len_seq
def rTupO (K : PySem.W.Frag) : List V → Hp → VK → Prop := fun xs H Q => ∃ p ys, xs = [.ref p] ∧ ((SqL K H p ys ∧ ∀ l, H l = none → Q (.ref l) (upd H l (.tup ys))) ∨ (SqT K H p ys ∧ Q (.ref p) H))
theorem tup_of {X : Cx} : CallR X (.type "tuple") (rTupO X.K) := call_tuple_of
def rLstO (K : PySem.W.Frag) : List V → Hp → VK → Prop := fun xs H Q => ∃ p ys, xs = [.ref p] ∧ (SqL K H p ys ∨ SqT K H p ys) ∧ ∀ l, H l = none → Q (.ref l) (upd H l (.lst ys))
theorem lst_of {X : Cx} : CallR X (.type "list") (rLstO X.K) := call_list_of
/-- what is new may change -/
theorem kp_same {p : Addr} {H H1 H2 : Hp} (np : H p = none) (s : Same H H1) (k : Kp p H1 H2) : Same H H2 := fun b o e => k b o (ne_of_none e np) (s b o e)
/-- a constant of the module -/
theorem pe_cst {X : Cx} {x : Str} {i : Int} {pos : Pos} (hg : Gl X x) (h : ∃ t, X.mg x = some (.int i t)) (hd : (x == ("__debug__" : Str)) = false := by decide) : PE X (.Name x pos) (tC (.int i)) := by
  obtain ⟨t, e⟩ := h
  exact pe_glob (v := .int i) hg e ⟨t, rfl⟩ hd
end GS
namespace GS
open PySem PySem.Spec PyProof.Rows L2 RZ
open AutoSeq1 (wpAny_loadPart')
/-! enumerate(tuple) -/
theorem meets_enumT (l : Addr) (items : Array Value) (n : Nat) (dct : Option Addr) (sl : Array (Option Value)) :
    Meets (Builtin.«enumerate.__new__» ⟨[.type "enumerate", .ref l], []⟩) (fun _ R s => s.heap.get? l = some { cls := .type "tuple", dict := dct, data := .seq items n, slots := sl } ∧
      R (.ok (.ret (.ref (s.heap.push { cls := .type "tuple_iterator", data := .fields #[.ref l, .int 0 0] }).objs.size)))
        { s with heap := (s.heap.push { cls := .type "tuple_iterator", data := .fields #[.ref l, .int 0 0] }).push { cls := .type "enumerate", data := .fields #[.none, .bool false, .ref s.heap.objs.size, rawInt 0, .none, .none] } }) :=
  .of_wp fun prog w A R s h => by
    obtain ⟨hp, g, d, tk, os⟩ := s
    obtain ⟨hl, h⟩ := h
    have hsub := sub_enumerate
    have hT : Heap.IsTuple (Shared.heap ⟨hp, g, d, tk, os⟩) l items := ⟨_, hl, rfl, n, rfl⟩
    wp_walk using wpAny_loadPart' hl
    refine wpAny_stack_any fun st => wpAny_pure ?_
    split
    · rename_i c _ _ _ _ _
      cases (c == Value.type "enumerate") <;> (wp_walk using wpAny_loadPart' hl, wpAny_pyIter_tuple hT) <;> exact ⟨_, rfl, h⟩
    · wp_walk using wpAny_loadPart' hl, wpAny_pyIter_tuple hT
      exact ⟨_, rfl, h⟩
section
variable {prog : Program} {w : World} {A : Around} {E : Value → Shared → Prop} {s : Shared}
theorem call_enumT {l : Addr} {items : Array Value} {Q : Value → Shared → Prop} (hL : s.heap.IsTuple l items)
    (h : ∀ h', IsEnum h' (s.heap.objs.size + 1) s.heap.objs.size 0 .none → h'.IsTupleIter s.heap.objs.size l 0 → (∀ b o, s.heap.get? b = some o → h'.get? b = some o) → Q (.ref (s.heap.objs.size + 1)) { s with heap := h' }) :
    wpAny (model prog w) A (call (.type "enumerate") [.ref l]) Q E s := by
  obtain ⟨⟨c, dct, dt, sl⟩, hl, hc, n, hd⟩ := hL
  obtain rfl : c = .type "tuple" := hc
  obtain rfl : dt = .seq items n := hd
  refine callType_new F.called_enumerate (by decide) (F.typeCall_enumerate_1 _) (F.newCall_enumerate_1 _) (fun obj => F.args_object_init_2 obj _) F.entry_enumerate_new (meets_enumT l items n dct sl) ⟨hl, ?_⟩
  let g1 := s.heap.push { cls := .type "tuple_iterator", data := .fields #[.ref l, .int 0 0] }
  let o2 : Obj := { cls := .type "enumerate", data := .fields #[.none, .bool false, .ref s.heap.objs.size, rawInt 0, .none, .none] }
  have hz : g1.objs.size = s.heap.objs.size + 1 := Heap.size_push ..
  have he : (g1.push o2).get? (s.heap.objs.size + 1) = some o2 := by rw [← hz]; exact Heap.get?_push_size _ rfl
  show Shared.TypeIs { s with heap := g1.push o2 } (.ref g1.objs.size) "enumerate" ∧ _
  rw [hz]
  exact ⟨⟨o2, he, rfl⟩, h _ he ⟨_, Heap.get?_push_of_some _ (Heap.get?_push_size _ rfl), rfl, rfl⟩ fun b o x => Heap.get?_push_of_some _ (Heap.get?_push_of_some _ x)⟩
end
section
variable {prog : Program} {w : World} {A : Around} {E : Value → Shared → Prop} {s : Shared}
theorem enumT_end {e it l : Addr} {i : Int} {j : Nat} {items : Array Value} {old : Value} {Q : Option Value → Shared → Prop} (hh : A.handled = none)
    (he : IsEnum s.heap e it i old) (hit : s.heap.IsTupleIter it l j) (hl : s.heap.IsTuple l items) (hx : items[j]? = none)
    (hQ : ∀ h', Heap.ExtBut it s.heap h' → Q none { s with heap := h' }) : wpAny (model prog w) A (pyNext (.ref e)) Q E s := by
  have tE : s.TypeIs (.ref e) "enumerate" := ⟨_, he, rfl⟩
  unfold pyNext
  apply wpAny_bind
  apply wpAny_attempt
  apply wpAny_callSpecial?_slot (name := Str.ofString "__next__") tE F.slot_enumerate_next
  apply wpAny_call_entry F.slot_enumerate_next tE F.entry_enumerate_next _ (F.args_enumerate_next_1 _)
  show wpAny _ _ (field (.ref e) 2 >>= _) _ _ _
  apply wpAny_bind
  apply wpAny_field he rfl (x := .ref it) rfl
  apply wpAny_bind
  apply wpAny_nextOf_tuple_end (A := A.in1) (show A.in1.handled = none from hh) hit hl hx
  rintro h' x eb ⟨o, ho, hc⟩
  refine wpAny_bind ?_
  refine wpAny_isInstance (T := "StopIteration") (b := true) (v := .ref x) ⟨o, ho, hc⟩ isSubtype_stop ?_
  exact wpAny_pure (hQ _ eb)
end
def IteT (K : PySem.W.Frag) (a : Addr) : It where
  go := fun i H => ∃ (xs : List V) (x : V), SqT K H a xs ∧ xs[i]? = some x
  yld := fun i H v H' => ∃ T x, v = .ref T ∧ H T = none ∧ H' = upd H T (.tup [.int (i : Nat), x]) ∧ ∀ xs, SqT K H a xs → xs[i]? = some x
  stop := fun i H => ∃ xs : List V, SqT K H a xs ∧ xs.length ≤ i
theorem turn_enumT {P : Program} {w : World} {K : PySem.W.Frag} {elts : List Expr} {kk : Nat} {tpos : Pos} (a e it : Addr) :
    Turn P w K (.Tuple elts kk tpos) (IteT K a) [e, it] e (fun i h => (∃ old, IsEnum h e it ((i : Nat) : Int) old) ∧ h.IsTupleIter it a i ∧ e ≠ it ∧ a ≠ it ∧ e ≠ a) where
  mem := List.mem_cons_self
  obj := fun i h st b hb => by
    obtain ⟨⟨old, he⟩, ⟨o, ho, _, hd⟩, _⟩ := st
    rcases List.mem_cons.mp hb with rfl | hb
    · exact ⟨_, he, fun v q => nomatch q⟩
    · rw [List.mem_singleton.mp hb]
      exact ⟨o, ho, fun v q => by rw [hd] at q; cases q⟩
  keep := fun i h h' ⟨⟨old, he⟩, hi, r⟩ k => ⟨⟨old, k e (by simp) _ he⟩, hi.at fun o q => k it (by simp) o q, r⟩
  item := by
    intro X hP hw hK hc i pn s σ H E J hf st hg
    subst hP hw hK
    obtain ⟨⟨old, he⟩, hit, hne, hai, hea⟩ := st
    obtain ⟨xs, x, hq, hx⟩ := hg
    obtain ⟨its, rv, p, hz⟩ := J.tuple hq
    obtain ⟨u, hu, ru⟩ := rv.get hx
    have hel : e < s.heap.objs.size := Heap.lt_size he
    have hil : it < s.heap.objs.size := by obtain ⟨_, q, _⟩ := hit; exact Heap.lt_size q
    have hlt : i < its.toArray.size := by
      have := (List.getElem?_eq_some_iff.mp hu).1
      simpa using this
    refine wpAny_pyNext_enum_itemD (Draws.tuple (A := X.A.in1) (J.ok.hd hc) it a hai its.toArray) he ⟨hit, p⟩ hlt hne (by simp [hne, hea]) fun y h' tk hy ho hst hT hsz hk => ?_
    have ey : y = u := by
      have hy' : its[i]? = some y := by simpa using hy
      rw [hu] at hy'
      exact (Option.some.inj hy').symm
    subst ey
    refine ⟨_, rfl, wpAny_letOwnedTupleGo_enum (s := { s with heap := h', toks := tk + 1 }) ho fun h'' he' sb => ?_⟩
    have hT2 : h''.get? s.heap.objs.size = some { cls := .type "tuple", data := .seq #[.int i tk, y] } := (sb.2 _ (Nat.ne_of_gt hel)).trans hT
    have new : ObjOk X.prog X.w (upd H s.heap.objs.size (.tup [.int (i : Nat), x])) h'' s.heap.objs.size (.tup [.int (i : Nat), x]) :=
      ⟨small_line (by show 2 ≤ 100000; omega), [.int i tk, y], .cons ⟨_, rfl⟩ (.cons ru .nil), ⟨_, hT2, rfl, _, rfl⟩⟩
    have J1 : Inv X pn σ (upd H s.heap.objs.size (.tup [.int (i : Nat), x])) { s with heap := h'', toks := tk + 1 } :=
      J.turnedNew (ch := [e, it]) (fun b ob hb q => (sb.2 b (fun z => hb (by simp [z]))).trans (hk b ob (fun z => hb (by simp [z])) (fun z => hb (by simp [z])) q)) hf (Nat.le_refl _) new
    refine ⟨.ref s.heap.objs.size, _, J1, rfl, ⟨_, x, rfl, J.hok.fresh (Nat.le_refl _), rfl, fun ys hy => by rw [J.tuple_inj hy hq]; exact hx⟩, ⟨⟨y, ?_⟩, hst.1.at fun o q => (sb.2 it (Ne.symm hne)).trans q, hne, hai, hea⟩, fun b hb => ?_⟩
    · rw [show ((i + 1 : Nat) : Int) = (i : Int) + 1 by omega]
      exact he'
    · have hb' : b < s.heap.objs.size := by
        rcases List.mem_cons.mp hb with z | z
        · rw [z]; exact hel
        · rw [List.mem_singleton.mp z]; exact hil
      rw [upd_ne (Nat.ne_of_lt hb')]
      exact (hf b hb).1
  done := by
    intro X hP hw hK hc i pn s σ H E J hf st hg
    subst hP hw hK
    obtain ⟨⟨old, he⟩, hit, hne, hai, hea⟩ := st
    obtain ⟨xs, hq, hx⟩ := hg
    obtain ⟨its, rv, p, hz⟩ := J.tuple hq
    obtain ⟨f0, f1, f2, f3, f4, f5⟩ := hf it (by simp)
    have hl := rv.length
    exact enumT_end (J.ok.hd hc) he hit p (by simp; omega) fun h' eb => ⟨rfl, J.turned (t' := s.toks) (fun b o hb q => eb b o hb q) f0 f1 f3 f4 f5⟩
  self := fun A i s Q E ⟨⟨_, he⟩, _⟩ h => wpAny_pyIter_enum he h
def iEnumT (K : PySem.W.Frag) (ta : TA) : TI := fun σ H R => ta σ H fun vs H1 => ∃ a xs, vs = [.ref a] ∧ SqT K H1 a xs ∧ R (IteT K a) H1
theorem pi_enumT {X : Cx} {e : Expr} {ta : TA} {p pos tpos : Pos} {elts : List Expr} {kk : Nat} (hg : Gl X "enumerate") (hm : X.mg "enumerate" = none) (ha : PA X [e] ta) (hs : starEach [e] X.env = [(false, eval e X.env)] := by rfl) :
    PI X (.Tuple elts kk tpos) (.Call (.Name "enumerate" p) [e] [] pos) (iEnumT X.K ta) := by
  constructor
  intro pn s σ H R J h
  refine Call_ (ld_blt J hg hm boot_enumerate ?_)
  refine PyProof.Rows.callWith_type1 (thn (ha.run pos pn s σ H _ J h) ?_) hs rfl
  rintro us s1 ⟨vs, H1, J1, r1, a, xs, rfl, hq, q⟩
  obtain ⟨its, rv, hT, hz⟩ := J1.tuple hq
  rw [Vals.ref1 r1]
  refine call_enumT hT fun h' he hit hk => wpAny_pyIter_enum he ?_
  have hal : a < s1.heap.objs.size := by obtain ⟨o, ho, _⟩ := hT; exact Heap.lt_size ho
  have J2 : Inv X pn σ H1 { s1 with heap := h' } := J1.kept (t' := s1.toks) hk
  refine ⟨s1.heap.objs.size + 1, [s1.heap.objs.size + 1, s1.heap.objs.size], _, _, H1, rfl, J2, turn_enumT a (s1.heap.objs.size + 1) s1.heap.objs.size, ⟨⟨.none, he⟩, hit, Nat.succ_ne_self _, Nat.ne_of_lt hal, Nat.ne_of_gt (Nat.lt_succ_of_lt hal)⟩, fun b hb => ?_, q⟩
  have hle : s1.heap.objs.size ≤ b := by
    rcases List.mem_cons.mp hb with z | z
    · rw [z]; exact Nat.le_add_right _ _
    · rw [List.mem_singleton.mp z]; exact Nat.le_refl _
  exact J1.fpOk hle (J1.hok.fresh hle)
theorem walk_enumT {K : PySem.W.Frag} {a : Addr} {xs : List V} : Walk (IteT K a) xs.length (fun H => SqT K H a xs) (YPair (fun i => some (.int (i : Nat))) (fun i => xs[i]?)) := by
  constructor
  · intro i H hi q
    exact ⟨xs, xs[i], q, by simp [hi]⟩
  · intro H q
    exact ⟨xs, q, Nat.le_refl _⟩
  · rintro i H v H' _ q ⟨T, x, h1, h2, h3, h4⟩
    exact ⟨T, .int (i : Nat), x, h1, h2, h3, rfl, h4 xs q⟩
theorem bt_sorted : bootBuiltins "sorted" = some (.builtin "sorted") := by decide +kernel
/-- a walk, by what holds behind each turn: for whatever a turn does (B) and whatever comes behind (Z) -/
theorem wit {J : It} {n : Nat} {G : Hp → Prop} {Y : Nat → Hp → V → Hp → Prop} (w : Walk J n G Y) {B : (Hp → Prop) → V → Hp → Prop} {Z : Hp → Prop} {H0 : Hp} (Pv : Nat → Hp → Prop) (h0 : Pv 0 H0)
    (hG : ∀ i H, i ≤ n → Pv i H → G H) (hs : ∀ i x H H', i < n → Pv i H → Y i H x H' → B (Pv (i + 1)) x H') (hd : ∀ H, Pv n H → Z H) :
    ∃ W : Nat → Nat → Hp → Prop, (∃ m, W 0 m H0) ∧ ∀ i m H, W i m H → (J.stop i H ∧ Z H) ∨ (J.go i H ∧ ∃ Nx : Hp → Prop, (∀ H', Nx H' → ∃ m', m' < m ∧ W (i + 1) m' H') ∧ ∀ x H', J.yld i H x H' → B Nx x H') := by
  refine ⟨fun i m H => m = n - i ∧ i ≤ n ∧ Pv i H, ⟨n, rfl, Nat.zero_le _, h0⟩, ?_⟩
  rintro i m H ⟨rfl, hi, p⟩
  by_cases h : i < n
  · right
    exact ⟨w.goes i H h (hG i H hi p), Pv (i + 1), fun H' p' => ⟨n - (i + 1), by omega, rfl, h, p'⟩, fun x H' y => hs i x H H' h p (w.yields i H x H' h (hG i H hi p) y)⟩
  · obtain rfl : i = n := by omega
    exact .inl ⟨w.stops H (hG i H hi p), hd H p⟩
theorem bt_enumerate : bootBuiltins "enumerate" = some (.type "enumerate") := boot_enumerate
end GS
namespace GS
open PySem PySem.Spec PyProof.Rows L2 RZ HT
/-! ### xs[i] by values, xs[i] += n -/
def rGetL (K : PySem.W.Frag) : V → V → Hp → VK → Prop := fun o i H Q => ∃ (p : Addr) (xs : List V) (k : Nat) (v : V), o = .ref p ∧ i = .int (k : Int) ∧ SqL K H p xs ∧ xs[k]? = some v ∧ Q v H
theorem get_list {X : Cx} : PGet X (rGetL X.K) := by
  intro pins s σ H o i ov iv Q I ro ri h
  obtain ⟨p, xs, k, z, rfl, rfl, hq, he, q⟩ := h
  cases ro
  obtain ⟨t, rfl⟩ := ri
  obtain ⟨its, r, pl, hz⟩ := I.list hq
  obtain ⟨u, eu, ru⟩ := r.get he
  have hl := r.length
  have h63 := line63
  have hk := (List.getElem?_eq_some_iff.mp he).1
  exact wpAny_getItem_list pl.isList (by omega) (by omega) (by rw [Int.toNat_natCast]; simpa using eu) ⟨z, H, I, ru, q⟩
/-! ### (x, y)[::-1] -/
section
variable {prog : Program} {w : World} {A : Around} {E : Value → Shared → Prop} {s : Shared}
theorem applied_back {sl : Addr} {vl vu vs : Value} {Q : Int × Int × Nat → Shared → Prop} (hs : s.heap.IsSliceOf sl vl vu vs) (pl : IsPart vl none) (pu : IsPart vu none) (pv : IsPart vs (some (-1)))
    (h : Q (1, -1, 2) s) : wpAny (model prog w) A (Builtin.Slice.sliceApplied (.ref sl) (pure ((2 : Nat) : Int))) Q E s := by
  obtain ⟨os, g1, g2, g3⟩ := id hs
  unfold Builtin.Slice.sliceApplied Builtin.Slice.sliceFields
  refine wpAny_bind (wpAny_bind (wpAny_field g1 g3 (x := vl) rfl (wpAny_bind (wpAny_field g1 g3 (x := vu) rfl (wpAny_bind (wpAny_field g1 g3 (x := vs) rfl (wpAny_pure ?_)))))))
  refine wpAny_bind (slicePart_ pv ?_)
  show wpAny _ _ (if ((-1 : Int) == 0) = true then _ else _) _ _ s
  rw [if_neg (show ¬ ((-1 : Int) == 0) = true by decide)]
  refine wpAny_bind (slicePart_ pl (wpAny_bind (slicePart_ pu (wpAny_bind (wpAny_pure ?_)))))
  exact wpAny_pure h
theorem getItem_back {t sl : Addr} {x y : Value} {vl vu vs : Value} {Q : Value → Shared → Prop} (tt : IsTup s.heap t #[x, y]) (hs : s.heap.IsSliceOf sl vl vu vs) (pl : IsPart vl none) (pu : IsPart vu none) (pv : IsPart vs (some (-1)))
    (h : Q (.ref s.heap.objs.size) { s with heap := s.heap.push { cls := .type "tuple", data := .seq #[y, x] } }) : wpAny (model prog w) A (getItem (.ref t) (.ref sl)) Q E s := by
  have fits : sizeOk (.seq #[y, x]) := by
    show 2 ≤ sizeLine
    rw [sizeLine_eq]
    omega
  obtain ⟨os, g1, g2, g3⟩ := id hs
  have ts : s.TypeIs (.ref sl) "slice" := ⟨os, g1, g2⟩
  unfold getItem
  try with_reducible refine wpAny_holding ?_
  first | refine wpAny_bind (wpAny_pure ?_) | skip
  refine wpAny_bind (wpAny_sequenceKey tt.typeIs (by decide) ?_)
  refine wpAny_bind (wpAny_callSpecial?_slot (name := Str.ofString "__getitem__") tt.typeIs PyProof.Rows.slot_tuple_getitem (wpAny_call_entry PyProof.Rows.slot_tuple_getitem tt.typeIs entry_tuple_getitem ?_ (args_tuple_getitem _ _)))
  refine wpAny_bind (m := Builtin.Tuple.tupleItemsOf (.ref t)) (tupleItemsOf_ tt (wpAny_bind (wpAny_typeOf ts ?_)))
  rw [if_pos (by decide)]
  refine wpAny_bind (applied_back hs pl pu pv ?_)
  show wpAny _ _ (if ((1 : Int) == 0 && (-1 : Int) == 1 && (2 : Nat) == 2) = true then _ else _) _ _ s
  rw [if_neg (show ¬ (((1 : Int) == 0 && (-1 : Int) == 1 && (2 : Nat) == 2) = true) by decide)]
  show wpAny _ _ (Builtin.Tuple.tupleExact #[y, x] >>= _) _ _ s
  first
    | exact wpAny_bind (m := Builtin.Tuple.tupleExact _) (wpAny_newObj_type (wpAny_pure ⟨_, rfl, wpAny_pure h⟩) fits)
    | exact wpAny_bind (m := Builtin.Tuple.tupleExact _) (wpAny_newObj_type (wpAny_bind (wpAny_pure (wpAny_pure ⟨_, rfl, wpAny_pure h⟩))) fits)
    | exact wpAny_bind (m := Builtin.Tuple.tupleExact _) (wpAny_newObj_type (wpAny_pure (wpAny_pure ⟨_, rfl, wpAny_pure h⟩)) fits)
end
variable {X : Cx}
def tRevP (K : PySem.W.Frag) (te : TE) : TE := fun σ H Q => te σ H fun x H1 => ∃ a u v, x = .ref a ∧ SqT K H1 a [u, v] ∧ ∀ p, H1 p = none → Q (.ref p) (upd H1 p (.tup [v, u]))
theorem pe_revT {e : Expr} {te : TE} {k : Nat} {p1 p2 p3 pos : Pos} (he : PE X e te) : PE X (.Subscript e (.Slice none none (some (.UnaryOp .USub (.Constant (.int 1) k p1) p2)) p3) pos) (tRevP X.K te) := by
  refine ⟨fun pins s σ H Q I h => ?_⟩
  refine Subscript_ (thn (he.run pins s σ H _ I h) fun v s1 ⟨x, H1, I1, r1, q1⟩ => ?_)
  obtain ⟨a, u, v', rfl, hx, q⟩ := q1
  cases r1
  have hst : PO X (some (.UnaryOp .USub (.Constant (.int 1) k p1) p2)) (tPart (tUn (rU fun i => .int (-i)) (tC (.int 1)))) := po_some (pe_un un_neg pe_int)
  refine wpAny_Slice (thn (po_none.run pins s1 σ H1 (fun o H2 => o = none ∧ H2 = H1) I1 ⟨rfl, rfl⟩) fun vl s2 ⟨l, H2, I2, pl, el, e2⟩ => ?_)
  obtain rfl := el
  obtain rfl := e2
  refine thn (po_none.run pins s2 σ H2 (fun o H3 => o = none ∧ H3 = H2) I2 ⟨rfl, rfl⟩) fun vu s3 ⟨l3, H3, I3, pu, eu, e3⟩ => ?_
  obtain rfl := eu
  obtain rfl := e3
  refine thn (hst.run pins s3 σ H3 (fun o H4 => o = some (-1) ∧ H4 = H3) I3 ⟨1, rfl, -1, rfl, rfl, rfl⟩) fun vs s4 ⟨l4, H4, I4, pv, eo, e4⟩ => ?_
  obtain rfl := eo
  obtain rfl := e4
  have I5 : Inv X pins σ H4 { s4 with heap := s4.heap.push { cls := .type "slice", data := .fields #[vl, vu, vs] } } := I4.kept (t' := s4.toks) fun _ _ z => Heap.get?_push_of_some _ z
  obtain ⟨its, r, ht, _⟩ := I5.tuple hx
  obtain ⟨y1, its1, rfl, ry1, r1⟩ : ∃ y1 its1, its = y1 :: its1 ∧ RelV u y1 ∧ Vals [v'] its1 := by
    cases r with
    | cons g t => exact ⟨_, _, rfl, g, t⟩
  obtain ⟨y2, rfl, ry2⟩ := r1.one
  show wpAny (model X.prog X.w) X.A (subscriptTail e (.Slice none none (some (.UnaryOp .USub (.Constant (.int 1) k p1) p2)) p3) (.ref a) (.ref s4.heap.objs.size)) (EP X pins σ Q) X.xe _
  refine tail_any (ops := [.ref a, .ref s4.heap.objs.size]) ht.typeIs PyProof.Rows.slot_tuple_getitem.lookup ?_ (by with_unfolding_all rfl)
  refine getItem_back ht (Heap.IsSliceOf.new _ vl vu vs) pl pu pv ?_
  refine ⟨.ref _, _, I5.laid (t' := s4.toks) (o := .tup [v', u]) (fun _ _ z => Heap.get?_push_of_some _ z) (Nat.le_refl _) ?_, rfl, q _ (I5.hok.fresh (Nat.le_refl _))⟩
  exact ⟨small_line (by show 2 ≤ 100000; omega), [y2, y1], .cons ry2 (.cons ry1 .nil), _, Heap.get?_push_size _ rfl, rfl, _, rfl⟩
end GS
namespace GS
open PySem PySem.Spec PyProof.Rows L2 RZ
/-! ### t > u of tuples of ints -/
def rGtT (K : PySem.W.Frag) : R2 := fun x y H Q => ∃ (a b : Addr) (ns ms : List Int), x = .ref a ∧ y = .ref b ∧ SqT K H a (ns.map V.int) ∧ SqT K H b (ms.map V.int) ∧
  Q (.bl (Ob.lexAt (fun j => decide (ns.getD j 0 = ms.getD j 0)) (fun j => decide (ms.getD j 0 < ns.getD j 0)) (decide (ns.length > ms.length)) 0 (min ns.length ms.length))) H
theorem op_gtT {X : Cx} (hu : X.A.units < cLine) : OpR X (compareOp .Gt) (rGtT X.K) := by
  intro pins s σ H x y v u Q I rx ry h
  obtain ⟨a, b, ns, ms, rfl, rfl, ha, hb, q⟩ := h
  cases rx
  cases ry
  obtain ⟨us, g1, p1, _⟩ := I.tuple ha
  obtain ⟨vs, g2, p2, _⟩ := I.tuple hb
  have j1 : IntsAre us ns := Vals.ints g1
  have j2 : IntsAre vs ms := Vals.ints g2
  have n1 : us.toArray.size = ns.length := by rw [List.size_toArray]; exact j1.length
  have n2 : vs.toArray.size = ms.length := by rw [List.size_toArray]; exact j2.length
  have at1 : ∀ j (hj : j < us.toArray.size), ∃ t, us.toArray[j] = .int (ns.getD j 0) t := fun j hj => PyProof.Rows.IntsAre.int_at j1 _ _ (by simp at hj; simp [hj])
  have at2 : ∀ j (hj : j < vs.toArray.size), ∃ t, vs.toArray[j] = .int (ms.getD j 0) t := fun j hj => PyProof.Rows.IntsAre.int_at j2 _ _ (by simp at hj; simp [hj])
  have R := Ob.RcOp.tuples_gt (A := X.A) (s := s) (e := fun j => decide (ns.getD j 0 = ms.getD j 0)) (r := fun j => decide (ms.getD j 0 < ns.getD j 0)) p1 p2 hu ?_ ?_
  · rw [n1, n2] at R
    exact R X.prog X.w X.xe (EP X pins σ Q) ⟨.bl _, H, I, rfl, q⟩
  · intro j hj1 hj2
    obtain ⟨t, et⟩ := at1 j hj1
    obtain ⟨t', et'⟩ := at2 j hj2
    rw [et, et']
    have z : decide (ns.getD j 0 = ms.getD j 0) = (ns.getD j 0 == ms.getD j 0) := by
      by_cases q : ns.getD j 0 = ms.getD j 0
      · rw [decide_eq_true q]
        exact (beq_iff_eq.mpr q).symm
      · rw [decide_eq_false q]
        exact (beq_eq_false_iff_ne.mpr q).symm
    show SeqAt.EqAt _ _ _ _ (decide (ns.getD j 0 = ms.getD j 0))
    rw [z]
    exact SeqAt.EqAt.int_int _ _ _ _
  · intro j hj1 hj2 _
    obtain ⟨t, et⟩ := at1 j hj1
    obtain ⟨t', et'⟩ := at2 j hj2
    rw [et, et']
    exact Ob.RcOp.gt_int _ _ _ _
/-! ### not x as a value, x of any kind -/
theorem pe_notA {X : Cx} {a : Expr} {ta : TE} {pos : Pos} (ha : PE X a ta) : PE X (.UnaryOp .Not a pos) (fun σ H Q => ta σ H fun x H1 => ∃ k, TruV X.K x H1 k ∧ Q (.bl (!k)) H1) := by
  refine ⟨fun pins s σ H Q I h => ?_⟩
  refine UnaryOp_ (thn (ha.run pins s σ H _ I h) fun v s1 ⟨x, H1, I1, r1, k, tr, q⟩ => not_of ?_)
  refine thn (tru_ok pins s1 σ H1 x v (fun b H2 => b = k ∧ H2 = H1) I1 r1 ⟨k, tr, rfl, rfl⟩) fun b s2 ⟨H2, I2, e1, e2⟩ => ?_
  obtain rfl := e1
  obtain rfl := e2
  exact ⟨.bl (!b), _, I2, rfl, q⟩
end GS
namespace GS
open PySem PySem.Spec PyProof.Rows L2 RZ
abbrev Sg := L2.St
/-! an exception that was caught and is kept behind its suite -/
def ExK (cls : Value) (a : Addr) : HO := .ext fun h => ∃ (oe : Obj) (vs : Array Value), h.get? a = some oe ∧ Zc cls none oe ∧ oe.data = .fields vs
theorem exK_ok {P : Program} {w : World} {H : Hp} {h : Heap} {a : Addr} {cls : Value} {oe : Obj} {vs : Array Value} (e : h.get? a = some oe) (z : Zc cls none oe) (d : oe.data = .fields vs) : ObjOk P w H h a (ExK cls a) :=
  ⟨⟨oe, vs, e, z, d⟩, ⟨oe, e⟩, fun _ _ ⟨o, us, e1, z1, d1⟩ k => ⟨o, us, k o e1, z1, d1⟩⟩
section
variable {X : Cx} {pins : List (Addr × Obj)} {σ : L2.St} {H : Hp} {s : Shared}
/-- an object that is in reach, but was tracked by nobody, is tracked from here on -/
theorem inv_track {a : Addr} {cls : Value} {oe : Obj} {vs : Array Value} (I : Inv X pins σ H s) (ga : s.heap.get? a = some oe) (hz : Zc cls none oe) (hd : oe.data = .fields vs) (na : H a = none)
    (nL : a ≠ X.env.locals) (n0 : X.s_0.heap.get? a = none) (np : ∀ p ∈ X.pn ++ pins, p.1 ≠ a) : Inv X pins σ (upd H a (ExK cls a)) s := by
  have other : ∀ {b : Addr}, b ≠ a → H b = none → (upd H a (ExK cls a)) b = none := fun hb hn => by
    rw [upd_ne hb]
    exact hn
  have kept : ∀ {b : Addr} {o : HO}, H b = some o → (upd H a (ExK cls a)) b = some o := fun e => by
    rw [upd_ne (ne_of_none e na)]
    exact e
  refine { ok := I.ok, os := I.os, bare := I.bare, loc := I.loc, cell := I.cell, len := I.len, base := ?_, free := other nL.symm I.free, freeC := ?_, pin := ?_, hok := ?_ }
  · refine { keep := I.base.keep, slot := I.base.slot, there := I.base.there, free := ?_, tups := fun b xs e => kept (I.base.tups b xs e), frzs := fun b o u e => kept (I.base.frzs b o u e), tbls := ?_ }
    · intro b o e n hx
      exact other (fun z => by rw [z, n0] at e; cases e) (I.base.free b o e n hx)
    · intro b ps e
      obtain ⟨more, q⟩ := I.base.tbls b ps e
      exact ⟨more, kept q⟩
  · intro x c e
    refine other (fun z => ?_) (I.freeC x c e)
    obtain ⟨v, hv⟩ := I.cell x c e
    obtain ⟨o, h1, h2⟩ := hv
    rw [z, ga] at h1
    cases h1
    rw [hd] at h2
    cases h2
  · intro p hp
    obtain ⟨g1, g2, g3⟩ := I.pin p hp
    exact ⟨g1, other (np p hp) g2, g3⟩
  · exact HOk.laidN I.hok (fun _ _ z => z) na (exK_ok ga hz hd)
end
/-- the wish behind «except c as n: suite» where the caught one is kept -/
def wKeep (K : PySem.W.Frag) (c : Value) (i : Nat) (ts : Addr → Value → TS) (D : Ends) : WX := fun cls d σ H =>
  d = none ∧ PySem.W.exmOne K cls c = some true ∧
    ∀ a, H a = none → ts a cls { nx := fun σ' H' => D.nx (σ'.set i none) (upd H' a (ExK cls a)), rt := fun _ _ => False, bk := fun _ _ => False, ct := fun _ _ => False } (σ.set i (some (.ref a))) H
section
variable {X : Cx} {x n : Str} {c : Value} {i : Nat} {body rest : List Stmt} {b₀ : Stmt} {np pos pos' : Pos} {tb : WX → TS} {ts : Addr → Value → TS}
theorem ps_try_keep (hs : X.stack = X.env :: X.outer) (hf : X.env.frame = some X.env.locals) (hex : X.ex = []) (hN : X.N.Nodup) (hi : X.N[i]? = some n) (hln : X.env.kindOf n = some .local) (hc : Names X x c)
    (hb : ∀ (W : WX) (pn : List (Addr × Obj)) (xe : Value → Shared → Prop), Takes (X.tr pn xe) W → PassesOwn (model X.prog X.w) X.A X.env xe → PSs (X.tr pn xe) body (tb W))
    (hsu : ∀ (a : Addr) (oe : Obj) (cls : Value) (pn : List (Addr × Obj)), Zc cls none oe → (∃ vs, oe.data = .fields vs) → PSs (X.suite a ((a, oe) :: pn)) (b₀ :: rest) (ts a cls)) :
    PS X (.Try body [.ExceptHandler (some (.Name x np)) (some n) (b₀ :: rest) pos'] [] [] pos) (fun D σ H => tb (wKeep X.K c i ts D) D σ H) := by
  constructor
  intro pins s σ H D I h
  have okX := I.ok
  have frames : X.A.frames = some (X.env :: X.outer) := okX.frames.trans (congrArg some hs)
  apply wpAny_Try_except
  have B := hb (wKeep X.K c i ts D) (X.pn ++ pins) (fun e s1 => wpAny (model X.prog X.w) X.A (noteFrame e X.env) (fun _ s2 => wpAny (model X.prog X.w) X.A (setFlight e none)
    (fun _ s3 => wpAny (model X.prog X.w) X.A (handleBy e X.env [.ExceptHandler (some (.Name x np)) (some n) (b₀ :: rest) pos']) (SP X pins D) X.xe s3) X.xe s2) X.xe s1)
  refine wpAny_mono ((B ?_ PassesOwn.looking).run [] s σ H D (I.toTry _) h) ?_ fun _ _ z => z
  · intro u s1 air
    obtain ⟨a, G, sI, ps, σ1, H1, cls, d, eu, I0, inG, upS, sky, na, eos, eg, ed, em, hw⟩ := air
    subst eu
    subst ed
    have J : Inv X pins σ1 H1 sI := I0.ofTry okX
    rw [show (X.tr (X.pn ++ pins) _).stack = X.env :: X.outer from hs] at sky
    change wpAny (model X.prog X.w) X.A (noteFrame (.ref a) X.env) _ _ _
    refine Sky.land Zc.steady frames hf sky fun g1 f1 u1 => ?_
    have J1 : Inv X pins σ1 H1 { s1 with heap := g1 } := J.landed inG f1.1 (upS.trans u1) eos eg
    obtain ⟨o1, v1, ga1, z1, d1⟩ := f1.there
    have away : a ∉ frs (X.env :: X.outer) := fun hm => by
      obtain ⟨_, o2, e2, nf⟩ := f1.2.2.1.mem hm
      rw [ga1] at e2
      cases e2
      exact nf _ d1
    have ne1 : a ≠ X.env.locals := fun z => away (List.mem_filterMap.mpr ⟨X.env, List.mem_cons_self, hf.trans (congrArg some z.symm)⟩)
    have ne2 : a ∉ X.fs := fun hm => by
      obtain ⟨e, me, q⟩ := List.mem_filterMap.mp hm
      exact away (List.mem_filterMap.mpr ⟨e, List.mem_cons_of_mem _ me, q⟩)
    -- it is new
    have newI : sI.heap.get? a = none := by
      cases q : sI.heap.get? a with
      | none => rfl
      | some o =>
        have := inG a o q (by rw [show (X.tr (X.pn ++ pins) _).stack = X.env :: X.outer from hs]; exact away)
        rw [f1.2.1] at this
        cases this
    have new0 : X.s_0.heap.get? a = none := by
      cases q : X.s_0.heap.get? a with
      | none => rfl
      | some o =>
        obtain ⟨o', q'⟩ := J.base.there a o q (by rw [hex]; exact List.not_mem_nil)
        rw [newI] at q'
        cases q'
    have newP : ∀ p ∈ X.pn ++ pins, p.1 ≠ a := fun p hp z => by
      have := (J.pin p hp).1
      rw [z, newI] at this
      cases this
    have S1 := J1.suite ga1 d1 na ne1 ne2
    refine wpAny_handleBy_cons (codeAny_handlers_test ?_) (by intro q; cases q)
    have look : PySem.W.Looks (model X.prog X.w) g1 (typeOf (.ref a)) cls := fun A Q E s k q => wpAny_typeOf_ref (k _ _ ga1) (by rw [z1.1]; exact q)
    have meets := PySem.W.exm_one (M := model X.prog X.w) J1.kIn look em
    have name : ∀ {Q E : Value → Shared → Prop}, Q c { s1 with heap := g1 } → wpAny (model X.prog X.w) (X.A.mark (some (.ref a))) (eval (.Name x np) X.env) Q E { s1 with heap := g1 } := by
      intro Q E q
      obtain ⟨hg, hdb, hm | ⟨hm, hv, hnn⟩⟩ := hc
      · exact ld_glob (X := X.suite a ((a, o1) :: (X.pn ++ pins))) S1 hg hm q hdb
      · exact ld_blt (X := X.suite a ((a, o1) :: (X.pn ++ pins))) S1 hg hm hv q hnn hdb
    refine name (meets.here (codeAny_handlers_suite_as ?_))
    refine HandSPX.lands_againZ f1 fun g2 f2 u2 => ?_
    have J2 : Inv X pins σ1 H1 { s1 with heap := g2 } := J.landed inG f2.1 ((upS.trans u1).trans u2) eos eg
    obtain ⟨o2, v2, ga2, z2, d2⟩ := f2.there
    have S2 := J2.suite ga2 d2 na ne1 ne2
    refine store_ok (X := X.suite a ((a, o2) :: (X.pn ++ pins))) (v := .ref a) S2 hN hi (.inl hln) rfl (fun s3 S3 => ?_) (.inr hln)
    refine wpAny_mono ((hsu a o2 cls (X.pn ++ pins) z2 ⟨_, d2⟩).run [] s3 _ H1 _ S3 (hw a na)) (fun fl s4 hq => ?_) fun _ _ z => False.elim z
    match fl, hq with
    | .next, ⟨σ4, H4, S4, q4⟩ =>
      have pn4 := S4.pin (a, o2) (List.mem_append.mpr (.inl List.mem_cons_self))
      have J4 := inv_track (S4.unsuite okX) pn4.1 z2 d2 pn4.2.1 ne1 new0 newP
      exact gone_ok J4 hN hi hln fun s5 J5 => ⟨_, _, J5, q4⟩
    | .brk, ⟨_, _, _, q4⟩ => exact q4.elim
    | .cont, ⟨_, _, _, q4⟩ => exact q4.elim
    | .ret _, ⟨_, _, _, _, _, q4⟩ => exact q4.elim
  · intro fl s1 hq
    match fl, hq with
    | .next, ⟨σ1, H1, J, q⟩ => exact wpAny_execs_nil ⟨σ1, H1, J.ofTry okX, q⟩
    | .brk, ⟨σ1, H1, J, q⟩ => exact ⟨σ1, H1, J.ofTry okX, q⟩
    | .cont, ⟨σ1, H1, J, q⟩ => exact ⟨σ1, H1, J.ofTry okX, q⟩
    | .ret u, ⟨v, σ1, H1, J, r, q⟩ => exact ⟨v, σ1, H1, J.ofTry okX, r, q⟩
end
section
variable {X : Cx}
/-- isinstance(e, c), e an exception that is kept -/
def rIsK (K : PySem.W.Frag) : List V → Hp → VK → Prop := fun xs H Q => ∃ (a D : Addr) (c : V) (u : Value) (b : Bool), xs = [.ref a, c] ∧ H a = some (ExK (.ref D) a) ∧ ExcC K D ∧ ClsV c u ∧ PySem.W.kitOne K (.ref D) u = some b ∧ Q (.bl b) H
def rIsKT (K : PySem.W.Frag) : List V → Hp → VK → Prop := fun xs H Q => ∃ (a D tp : Addr) (cs : List V) (us : List Value) (b : Bool), xs = [.ref a, .ref tp] ∧ H a = some (ExK (.ref D) a) ∧ ExcC K D ∧ H tp = some (.tup cs) ∧ Paired ClsV cs us ∧ PySem.W.kitAny K (.ref D) us = some b ∧ Q (.bl b) H
theorem exK_at {pins : List (Addr × Obj)} {σ : L2.St} {H : Hp} {s : Shared} {a D : Addr} (I : Inv X pins σ H s) (h : H a = some (ExK (.ref D) a)) : ∃ oe, PySem.W.InstAt s.heap a oe D none := by
  obtain ⟨⟨oe, vs, g, ⟨z1, z2⟩, d⟩, _, _⟩ := I.hok a _ h
  refine ⟨oe, ?_⟩
  obtain ⟨oc, od, oda, osl⟩ := oe
  dsimp only at z1 z2 d
  subst z1 z2 d
  exact ⟨g, rfl, rfl, trivial⟩
theorem call_isK : CallR X (.builtin "isinstance") (rIsK X.K) := by
  intro pins s σ H xs us Q I r h
  obtain ⟨a, D, c, u, b, rfl, ha, C, k, e, q⟩ := h
  obtain ⟨u1, u2, rfl, r1, r2⟩ := vals2 r
  cases (show u1 = Value.ref a from r1)
  have e2 := k.eq r2
  subst e2
  obtain ⟨oe, J⟩ := exK_at I ha
  exact PySem.W.kia_one (PySem.W.handS_kitx_exc C.hg C.hk C.hs C.hd C.ha C.hn C.ht C.hm) I.kIn J e (fun z => nomatch z) fun tk => ⟨.bl b, H, I.tok tk, rfl, q⟩
theorem call_isKT : CallR X (.builtin "isinstance") (rIsKT X.K) := by
  intro pins s σ H xs us Q I r h
  obtain ⟨a, D, tp, cs, ws, b, rfl, ha, C, hT, k, e, q⟩ := h
  obtain ⟨u1, u2, rfl, r1, r2⟩ := vals2 r
  cases (show u1 = Value.ref a from r1)
  cases (show u2 = Value.ref tp from r2)
  obtain ⟨oe, J⟩ := exK_at I ha
  obtain ⟨_, its, rv, o, h1, h2, n, h3⟩ := (show ObjOk X.prog X.w H s.heap tp (.tup cs) from I.hok tp _ hT)
  have e3 := ClsV.all k rv
  subst e3
  obtain ⟨oc, od, dt, sl⟩ := o
  simp only at h2 h3
  subst h2 h3
  exact PySem.W.kia_tup (PySem.W.handS_kitx_exc C.hg C.hk C.hs C.hd C.ha C.hn C.ht C.hm) I.kIn J h1 e (fun z => nomatch z) fun tk => ⟨.bl b, H, I.tok tk, rfl, q⟩
end
end GS
namespace GS
open PySem PySem.Spec PyProof.Rows L2 RZ
theorem bt_ValueError : bootBuiltins "ValueError" = some (.type "ValueError") := by decide +kernel
/-- repr of data of any kind (dicts aside) -/
def rShw (K : PySem.W.Frag) : List V → Hp → VK → Prop := fun xs H Q => ∃ (v : V) (d : PyData), xs = [v] ∧ Dp K H v d ∧ d.showable = true ∧ d.hasDict = false ∧ d.depth ≤ 60 ∧ d.shown.length ≤ sizeLine ∧ Q (.str d.shown) H
section
variable {X : Cx}
theorem call_shw (hA : Clr X.A) (hu : X.A.units + 64 < cLine) : CallR X (.builtin "repr") (rShw X.K) := by
  intro pn s σ H xs us Q J r h
  obtain ⟨v, d, rfl, hd, h1, h2, h3, h4, q⟩ := h
  obtain ⟨u, rfl, r1⟩ := vals1 r
  have big : ∀ a, v = .ref a → wpAny (model X.prog X.w) X.A (call (.builtin "repr") [u]) (EP X pn σ Q) X.xe s := by
    intro a e
    subst e
    cases r1
    obtain ⟨as, rd⟩ := Dp.reads J d _ _ hd rfl
    exact repr_of_reads' rd h1 (PyData.noDict_hsm h2) hA (by omega) (fun _ _ z => z) (fun h' u tk hk => ⟨.str _, H, J.kept hk, ⟨_, rfl⟩, q⟩) h4
  cases hd with
  | non =>
    cases r1
    exact PySem.P.repr_of_none ⟨.str _, H, J.tok _, ⟨_, rfl⟩, q⟩
  | bl b =>
    cases r1
    exact PySem.P.repr_of_bool ⟨.str _, H, J.tok _, ⟨_, rfl⟩, q⟩
  | int i =>
    obtain ⟨t, rfl⟩ := r1
    exact PySem.P.repr_of_int (of_decide_eq_true h1) ⟨.str _, H, J.tok _, ⟨_, rfl⟩, q⟩
  | str x =>
    obtain ⟨t, rfl⟩ := r1
    exact PySem.P.repr_of_str ⟨.str _, H, J.tok _, ⟨_, rfl⟩, q⟩ h4
  | lst h g => exact big _ rfl
  | tup h g => exact big _ rfl
end
end GS
namespace GS
open PySem PySem.Spec PyProof.Rows L2 RZ
/-! enumerate(zip(t, u)) of two tuples -/
/-- a zip in whatever state: what it has given out (g), and whether it knows that this is still held (b) -/
abbrev ZipF (h : Heap) (z TI TO : Addr) (g : Value) (b : Bool) : Prop :=
  h.get? z = some { cls := .type "zip", dict := none, data := .fields #[g, .bool b, .bool false, .ref TI, .ref TO], slots := #[] }
abbrev PairAt (h : Heap) (T : Addr) (a b : Value) : Prop := h.get? T = some { cls := .type "tuple", data := .seq #[a, b] }
def Gv (g : Value) : Prop := g = .none ∨ ∃ T : Addr, g = rawInt T
section
variable {prog : Program} {w : World} {A : Around} {E : Value → Shared → Prop} {s : Shared}
theorem owned_any {z TI TO : Addr} {g : Value} {b : Bool} {Q : Bool → Shared → Prop} (hz : ZipF s.heap z TI TO g b) (hg : Gv g) (yes : Q true s)
    (no : ∀ h', ZipF h' z TI TO g true → Heap.SameBut z s.heap h' → Q false { s with heap := h' }) : wpAny (model prog w) A (Builtin.SmallTypes.ownedTupleIsFree (.ref z)) Q E s := by
  unfold Builtin.SmallTypes.ownedTupleIsFree
  apply wpAny_bind
  rcases hg with rfl | ⟨T, rfl⟩
  · exact wpAny_field hz rfl (x := .none) rfl (wpAny_pure yes)
  apply wpAny_field hz rfl (x := rawInt T) rfl
  change wpAny _ _ (loadIfAlive ((T : Int).toNat) >>= _) _ _ _
  rw [Int.toNat_natCast]
  apply wpAny_bind
  cases e : s.heap.get? T with
  | none =>
    have goal : wpAny (model prog w) A (loadIfAlive T) (fun o s1 => o = none ∧ s1 = s) E s := by
      have q : (s.heap.get? T) = none ∧ s = s := ⟨e, rfl⟩
      exact fun _ _ _ => q
    refine wpAny_mono goal (fun o s1 hq => ?_) fun _ _ x => x
    obtain ⟨rfl, rfl⟩ := hq
    simp only [Option.isNone_none, if_true]
    exact wpAny_pure yes
  | some oT =>
    refine PySem.W.kdx_alive e ?_
    simp only [Option.isNone_some, Bool.false_eq_true, if_false]
    apply wpAny_bind
    apply wpAny_field hz rfl (x := .bool b) rfl
    cases b with
    | true =>
      rw [if_neg (by decide)]
      exact wpAny_pure (no _ hz (Heap.SameBut.refl _ _))
    | false =>
      rw [if_pos (by decide)]
      apply wpAny_bind
      exact wpAny_setField_rec hz (by simp) fun h1 z1 s1 => wpAny_pure (no h1 z1 s1)
/-- next of such a zip, both have an item -/
theorem zipF_item {z TI TO i1 i2 l1 l2 : Addr} {k1 k2 : Nat} {xs ys : Array Value} {x y g : Value} {b : Bool} {Q : Value → Shared → Prop} (D : ZipApart z TI TO i1 i2 l1 l2) (hz : ZipF s.heap z TI TO g b) (hg : Gv g)
    (hTI : PairAt s.heap TI (.ref i1) (.ref i2)) (hTO : ∃ u v, PairAt s.heap TO u v) (h1 : s.heap.IsTupleIter i1 l1 k1) (h2 : s.heap.IsTupleIter i2 l2 k2) (hl1 : s.heap.IsTuple l1 xs) (hl2 : s.heap.IsTuple l2 ys)
    (hx : xs[k1]? = some x) (hy : ys[k2]? = some y)
    (hQ : ∀ h' g' b', ZipF h' z TI TO g' b' → Gv g' → (∃ u v, PairAt h' TO u v) → h'.IsTupleIter i1 l1 (k1 + 1) → h'.IsTupleIter i2 l2 (k2 + 1) → PairAt h' s.heap.objs.size x y → h'.objs.size = s.heap.objs.size + 1 →
      (∀ c o, c ≠ z → c ≠ TO → c ≠ i1 → c ≠ i2 → s.heap.get? c = some o → h'.get? c = some o) → Q (.ref s.heap.objs.size) { s with heap := h' }) :
    wpAny (model prog w) A (Builtin.«zip.__next__» ⟨[.ref z], []⟩) (fun fin s' => ∃ v, fin = .done (.ret v) ∧ Q v s') E s := by
  change wpAny _ _ (field (.ref z) 2 >>= _) _ _ _
  apply wpAny_bind
  apply wpAny_field hz rfl (x := .bool false) rfl
  change wpAny _ _ (field (.ref z) 3 >>= _) _ _ _
  apply wpAny_bind
  apply wpAny_field hz rfl (x := .ref TI) rfl
  apply wpAny_bind
  apply wpAny_seqItems hTI rfl
  change wpAny _ _ (Builtin.SmallTypes.ownedTupleIsFree (.ref z) >>= _) _ _ _
  apply wpAny_bind
  obtain ⟨u0, v0, hTO⟩ := hTO
  refine owned_any hz hg ?_ fun ha za sa => ?_
  · -- the owned one again
    simp only [if_true]
    refine wpAny_bind (wpAny_rule (wpAny_bind (wpAny_field hz rfl (x := .ref TO) rfl (wpAny_bind (wpAny_setField_rec hz (by simp) fun ha za sa => ?_)))))
    replace za : ZipF ha z TI TO .ellipsis b := za
    apply wpAny_bind
    simp only [List.zipIdx_cons, List.zipIdx_nil, List.forIn_cons, List.forIn_nil]
    refine wpAny_bind (wpAny_bind (wpAny_onRaise ?_))
    change wpAny _ _ (Builtin.SmallTypes.nextOf (.ref i1) >>= _) _ _ _
    refine wpAny_bind (nextOf_tuple_item (h1.extBut sa.extBut D.i1z) (hl1.extBut sa.extBut D.l1z) hx fun hb ib sb => wpAny_pure ?_)
    have tb : PairAt hb TO u0 v0 := sb.extBut _ _ D.TOi1 (sa.extBut _ _ D.TOz hTO)
    refine wpAny_bind (wpAny_seqItems tb rfl (wpAny_bind (wpAny_updateSeq_pair tb fun hc tc sc => ?_)))
    replace tc : PairAt hc TO x v0 := tc
    refine wpAny_bind (wpAny_letGo (wpAny_pure ?_))
    refine wpAny_bind (wpAny_bind (wpAny_onRaise ?_))
    change wpAny _ _ (Builtin.SmallTypes.nextOf (.ref i2) >>= _) _ _ _
    have i2c := ((h2.extBut sa.extBut D.i2z).extBut sb.extBut D.i12.symm).extBut sc.extBut D.TOi2.symm
    have l2c := ((hl2.extBut sa.extBut D.l2z).extBut sb.extBut D.l2i1).extBut sc.extBut D.l2TO
    refine wpAny_bind (nextOf_tuple_item i2c l2c hy fun hd id sd => wpAny_pure ?_)
    have td : PairAt hd TO x v0 := sd.extBut _ _ D.TOi2 tc
    refine wpAny_bind (wpAny_seqItems td rfl (wpAny_bind (wpAny_updateSeq_pair td fun he te se => ?_)))
    replace te : PairAt he TO x y := te
    refine wpAny_bind (wpAny_letGo (wpAny_pure (wpAny_pure (wpAny_bind (wpAny_seqItems te rfl (wpAny_bind (wpAny_newTuple ?_)))))))
    have size : he.objs.size = s.heap.objs.size := by rw [se.1, sd.1, sc.1, sb.1, sa.1]
    have keep : ∀ c o, c ≠ z → c ≠ TO → c ≠ i1 → c ≠ i2 → s.heap.get? c = some o → he.get? c = some o := fun c o n1 n2 n3 n4 q =>
      se.extBut _ _ n2 (sd.extBut _ _ n4 (sc.extBut _ _ n2 (sb.extBut _ _ n3 (sa.extBut _ _ n1 q))))
    have ze : ZipF he z TI TO .ellipsis b := se.extBut _ _ D.TOz.symm (sd.extBut _ _ D.i2z.symm (sc.extBut _ _ D.TOz.symm (sb.extBut _ _ D.i1z.symm za)))
    have i1e : he.IsTupleIter i1 l1 (k1 + 1) := ((ib.extBut sc.extBut D.TOi1.symm).extBut sd.extBut D.i12).extBut se.extBut D.TOi1.symm
    have i2e : he.IsTupleIter i2 l2 (k2 + 1) := id.extBut se.extBut D.TOi2.symm
    have zlt : z < he.objs.size := Heap.lt_size ze
    change wpAny _ _ (Builtin.SmallTypes.ownedTupleHandOut (.ref z) (.ref he.objs.size) >>= _) _ _ _
    apply wpAny_bind
    unfold Builtin.SmallTypes.ownedTupleHandOut
    have zf : ZipF (he.push { cls := .type "tuple", data := .seq #[x, y] }) z TI TO .ellipsis b := Heap.get?_push_of_some _ ze
    refine wpAny_bind (wpAny_setField_rec zf (by simp) fun hg zg sg => ?_)
    replace zg : ZipF hg z TI TO (rawInt he.objs.size) b := zg
    refine wpAny_setField_rec zg (by simp) fun hi zi si => ?_
    replace zi : ZipF hi z TI TO (rawInt he.objs.size) false := zi
    have on : ∀ c o, c ≠ z → he.get? c = some o → hi.get? c = some o := fun c o n q => si.extBut _ _ n (sg.extBut _ _ n (Heap.get?_push_of_some _ q))
    have new : PairAt hi he.objs.size x y := si.extBut _ _ (Nat.ne_of_gt zlt) (sg.extBut _ _ (Nat.ne_of_gt zlt) (Heap.get?_push_size _ rfl))
    have sz : hi.objs.size = he.objs.size + 1 := by rw [si.1, sg.1, Heap.size_push]
    refine wpAny_pure ⟨_, rfl, ?_⟩
    change Q (.ref he.objs.size) _
    rw [size] at new sz ⊢
    exact hQ hi _ _ zi (.inr ⟨_, rfl⟩) ⟨_, _, on _ _ D.TOz te⟩ (i1e.at fun o q => on _ o D.i1z q) (i2e.at fun o q => on _ o D.i2z q) new sz fun c o n1 n2 n3 n4 q => on c o n1 (keep c o n1 n2 n3 n4 q)
  · -- a new one
    simp only [Bool.false_eq_true, if_false]
    apply wpAny_bind
    rw [← Array.forIn_toList]
    simp only [List.forIn_cons, List.forIn_nil]
    refine wpAny_bind (wpAny_bind (wpAny_holding ?_))
    change wpAny _ _ (Builtin.SmallTypes.nextOf (.ref i1) >>= _) _ _ _
    refine wpAny_bind (nextOf_tuple_item (s := { s with heap := ha }) (h1.extBut sa.extBut D.i1z) (hl1.extBut sa.extBut D.l1z) hx fun hb ib sb => wpAny_pure (wpAny_pure ?_))
    refine wpAny_bind (wpAny_bind (wpAny_holding ?_))
    change wpAny _ _ (Builtin.SmallTypes.nextOf (.ref i2) >>= _) _ _ _
    refine wpAny_bind (nextOf_tuple_item (s := { s with heap := hb }) ((h2.extBut sa.extBut D.i2z).extBut sb.extBut D.i12.symm) ((hl2.extBut sa.extBut D.l2z).extBut sb.extBut D.l2i1) hy fun hc ic sc => wpAny_pure (wpAny_pure (wpAny_pure ?_)))
    change wpAny _ _ (newTuple [x, y] >>= _) _ _ _
    refine wpAny_bind (wpAny_newTuple ?_)
    have size : hc.objs.size = s.heap.objs.size := by rw [sc.1, sb.1, sa.1]
    have zc : ZipF hc z TI TO g true := sc.extBut _ _ D.i2z.symm (sb.extBut _ _ D.i1z.symm za)
    have keep : ∀ c o, c ≠ z → c ≠ i1 → c ≠ i2 → s.heap.get? c = some o → hc.get? c = some o := fun c o n1 n2 n3 q => sc.extBut _ _ n3 (sb.extBut _ _ n2 (sa.extBut _ _ n1 q))
    have i1c : hc.IsTupleIter i1 l1 (k1 + 1) := ib.extBut sc.extBut D.i12
    refine wpAny_pure ⟨_, rfl, ?_⟩
    change Q (.ref hc.objs.size) _
    have new : PairAt (hc.push { cls := .type "tuple", data := .seq #[x, y] }) hc.objs.size x y := Heap.get?_push_size _ rfl
    have sz : (hc.push { cls := .type "tuple", data := .seq #[x, y] }).objs.size = hc.objs.size + 1 := Heap.size_push ..
    rw [size] at new sz ⊢
    exact hQ _ g true (Heap.get?_push_of_some _ zc) hg ⟨_, _, Heap.get?_push_of_some _ (keep _ _ D.TOz D.TOi1 D.TOi2 hTO)⟩ (i1c.at fun o q => Heap.get?_push_of_some _ q) (ic.at fun o q => Heap.get?_push_of_some _ q) new sz
      fun c o n1 _ n3 n4 q => Heap.get?_push_of_some _ (keep c o n1 n3 n4 q)
/-- next of such a zip, one has none -/
theorem zipF_end {z TI TO i1 i2 l1 l2 : Addr} {k1 k2 : Nat} {xs ys : Array Value} {g : Value} {b : Bool} {Q : PySem.Fin → Shared → Prop} (hh : A.handled = none) (D : ZipApart z TI TO i1 i2 l1 l2) (hz : ZipF s.heap z TI TO g b) (hg : Gv g)
    (hTI : PairAt s.heap TI (.ref i1) (.ref i2)) (hTO : ∃ u v, PairAt s.heap TO u v) (h1 : s.heap.IsTupleIter i1 l1 k1) (h2 : s.heap.IsTupleIter i2 l2 k2) (hl1 : s.heap.IsTuple l1 xs) (hl2 : s.heap.IsTuple l2 ys)
    (hend : xs[k1]? = none ∨ ys[k2]? = none)
    (hE : ∀ h' e, (∀ c o, c ≠ z → c ≠ TO → c ≠ i1 → c ≠ i2 → s.heap.get? c = some o → h'.get? c = some o) → (∃ o, h'.get? e = some o ∧ o.cls = .type "StopIteration") → E (.ref e) { s with heap := h' }) :
    wpAny (model prog w) A (Builtin.«zip.__next__» ⟨[.ref z], []⟩) Q E s := by
  change wpAny _ _ (field (.ref z) 2 >>= _) _ _ _
  apply wpAny_bind
  apply wpAny_field hz rfl (x := .bool false) rfl
  change wpAny _ _ (field (.ref z) 3 >>= _) _ _ _
  apply wpAny_bind
  apply wpAny_field hz rfl (x := .ref TI) rfl
  apply wpAny_bind
  apply wpAny_seqItems hTI rfl
  change wpAny _ _ (Builtin.SmallTypes.ownedTupleIsFree (.ref z) >>= _) _ _ _
  apply wpAny_bind
  obtain ⟨u0, v0, hTO⟩ := hTO
  refine owned_any hz hg ?_ fun ha za sa => ?_
  · simp only [if_true]
    refine wpAny_bind (wpAny_rule (wpAny_bind (wpAny_field hz rfl (x := .ref TO) rfl (wpAny_bind (wpAny_setField_rec hz (by simp) fun ha za sa => ?_)))))
    replace za : ZipF ha z TI TO .ellipsis b := za
    apply wpAny_bind
    simp only [List.zipIdx_cons, List.zipIdx_nil, List.forIn_cons, List.forIn_nil]
    refine wpAny_bind (wpAny_bind (wpAny_onRaise ?_))
    change wpAny _ _ (Builtin.SmallTypes.nextOf (.ref i1) >>= _) _ _ _
    have i1a := h1.extBut sa.extBut D.i1z
    have l1a := hl1.extBut sa.extBut D.l1z
    cases hx : xs[k1]? with
    | none =>
      refine wpAny_bind (nextOf_tuple_end hh i1a l1a hx fun hb e sb ⟨oe, ge, ce⟩ => ?_)
      have zb : ZipF hb z TI TO .ellipsis b := sb _ _ D.i1z.symm za
      have ez : e ≠ z := fun q => by
        rw [q, zb] at ge
        cases ge
        simp at ce
      refine wpAny_setField_rec zb (by simp) fun hc _ sc => hE hc e (fun c o n1 _ n3 _ q => sc.extBut _ _ n1 (sb _ _ n3 (sa.extBut _ _ n1 q))) ⟨oe, sc.extBut _ _ ez ge, ce⟩
    | some x =>
      have hy : ys[k2]? = none := hend.resolve_left fun q => by rw [hx] at q; cases q
      refine wpAny_bind (nextOf_tuple_item i1a l1a hx fun hb ib sb => wpAny_pure ?_)
      have tb : PairAt hb TO u0 v0 := sb.extBut _ _ D.TOi1 (sa.extBut _ _ D.TOz hTO)
      refine wpAny_bind (wpAny_seqItems tb rfl (wpAny_bind (wpAny_updateSeq_pair tb fun hc tc sc => ?_)))
      refine wpAny_bind (wpAny_letGo (wpAny_pure ?_))
      refine wpAny_bind (wpAny_bind (wpAny_onRaise ?_))
      change wpAny _ _ (Builtin.SmallTypes.nextOf (.ref i2) >>= _) _ _ _
      have i2c := ((h2.extBut sa.extBut D.i2z).extBut sb.extBut D.i12.symm).extBut sc.extBut D.TOi2.symm
      have l2c := ((hl2.extBut sa.extBut D.l2z).extBut sb.extBut D.l2i1).extBut sc.extBut D.l2TO
      refine wpAny_bind (nextOf_tuple_end hh i2c l2c hy fun hd e sd ⟨oe, ge, ce⟩ => ?_)
      have zd : ZipF hd z TI TO .ellipsis b := sd _ _ D.i2z.symm (sc.extBut _ _ D.TOz.symm (sb.extBut _ _ D.i1z.symm za))
      have ez : e ≠ z := fun q => by
        rw [q, zd] at ge
        cases ge
        simp at ce
      refine wpAny_setField_rec zd (by simp) fun hf _ sf => hE hf e (fun c o n1 n2 n3 n4 q => sf.extBut _ _ n1 (sd _ _ n4 (sc.extBut _ _ n2 (sb.extBut _ _ n3 (sa.extBut _ _ n1 q))))) ⟨oe, sf.extBut _ _ ez ge, ce⟩
  · simp only [Bool.false_eq_true, if_false]
    apply wpAny_bind
    rw [← Array.forIn_toList]
    simp only [List.forIn_cons, List.forIn_nil]
    refine wpAny_bind (wpAny_bind (wpAny_holding ?_))
    change wpAny _ _ (Builtin.SmallTypes.nextOf (.ref i1) >>= _) _ _ _
    have i1a := h1.extBut sa.extBut D.i1z
    have l1a := hl1.extBut sa.extBut D.l1z
    cases hx : xs[k1]? with
    | none => exact wpAny_bind (nextOf_tuple_end (s := { s with heap := ha }) hh i1a l1a hx fun hb e sb he => hE hb e (fun c o n1 _ n3 _ q => sb _ _ n3 (sa.extBut _ _ n1 q)) he)
    | some x =>
      have hy : ys[k2]? = none := hend.resolve_left fun q => by rw [hx] at q; cases q
      refine wpAny_bind (nextOf_tuple_item (s := { s with heap := ha }) i1a l1a hx fun hb ib sb => wpAny_pure (wpAny_pure ?_))
      refine wpAny_bind (wpAny_bind (wpAny_holding ?_))
      change wpAny _ _ (Builtin.SmallTypes.nextOf (.ref i2) >>= _) _ _ _
      exact wpAny_bind (nextOf_tuple_end (s := { s with heap := hb }) hh ((h2.extBut sa.extBut D.i2z).extBut sb.extBut D.i12.symm) ((hl2.extBut sa.extBut D.l2z).extBut sb.extBut D.l2i1) hy fun hc e sc he =>
        hE hc e (fun c o n1 _ n3 n4 q => sc _ _ n4 (sb.extBut _ _ n3 (sa.extBut _ _ n1 q))) he)
/-- next of an enumerate over whatever gives x and leaves the enumerate alone -/
theorem enum_next {e it : Addr} {i : Nat} {old : Value} {Q : Option Value → Shared → Prop} (he : IsEnum s.heap e it i old)
    (hn : wpAny (model prog w) A.in1 (Builtin.SmallTypes.nextOf (.ref it)) (fun x s1 => IsEnum s1.heap e it i old ∧ ∀ h' tk, IsEnumOut h' e it ((i : Int) + 1) x s1.heap.objs.size →
      h'.get? s1.heap.objs.size = some { cls := .type "tuple", data := .seq #[.int i tk, x] } → h'.objs.size = s1.heap.objs.size + 1 → (∀ b o, b ≠ e → s1.heap.get? b = some o → h'.get? b = some o) →
        Q (some (.ref s1.heap.objs.size)) { s1 with heap := h', toks := tk + 1 }) (fun v s1 => s1.TypeIs v "StopIteration" ∧ Q none s1) s) : wpAny (model prog w) A (pyNext (.ref e)) Q E s := by
  have ty : s.TypeIs (.ref e) "enumerate" := ⟨_, he, rfl⟩
  unfold pyNext
  apply wpAny_bind
  apply wpAny_attempt
  apply wpAny_callSpecial?_slot (name := Str.ofString "__next__") ty F.slot_enumerate_next
  apply wpAny_call_entry F.slot_enumerate_next ty F.entry_enumerate_next _ (F.args_enumerate_next_1 _)
  change wpAny _ _ (field (.ref e) 2 >>= _) _ _ _
  apply wpAny_bind
  apply wpAny_field he rfl (x := .ref it) rfl
  apply wpAny_bind
  refine wpAny_mono hn (fun x s1 hq => ?_) (fun v s1 hq => ?_)
  · obtain ⟨e1, q⟩ := hq
    obtain ⟨hp, gn, dr, tk, os⟩ := s1
    dsimp only at e1 q
    change wpAny _ _ (field (.ref e) 3 >>= _) _ _ _
    refine wpAny_bind (wpAny_field e1 rfl (x := rawInt i) rfl ?_)
    change wpAny _ _ (field (.ref e) 4 >>= _) _ _ _
    refine wpAny_bind (wpAny_field e1 rfl (x := .none) rfl ?_)
    change wpAny _ _ (mkInt i >>= _) _ _ _
    refine wpAny_bind (wpAny_mkInt ?_)
    change wpAny _ _ (setField (.ref e) 3 (rawInt ((i : Int) + 1)) >>= _) _ _ ⟨hp, gn, dr, tk + 1, os⟩
    refine wpAny_bind (wpAny_setField_rec e1 (by simp) fun ha ea sa => ?_)
    replace ea : IsEnum ha e it ((i : Int) + 1) old := ea
    replace sa : Heap.SameBut e hp ha := sa
    change wpAny _ _ (setField (.ref e) 4 .none >>= _) _ _ ⟨ha, gn, dr, tk + 1, os⟩
    refine wpAny_bind (wpAny_setField_rec ea (by simp) fun hb eb sb => ?_)
    replace eb : IsEnum hb e it ((i : Int) + 1) old := eb
    replace sb : Heap.SameBut e ha hb := sb
    change wpAny _ _ (newTuple [.int i tk, x] >>= _) _ _ ⟨hb, gn, dr, tk + 1, os⟩
    refine wpAny_bind (wpAny_newTuple ?_)
    have size : hb.objs.size = hp.objs.size := by rw [sb.1, sa.1]
    have elt : e < hb.objs.size := Heap.lt_size eb
    have ec : IsEnum (hb.push { cls := .type "tuple", data := .seq #[.int i tk, x] }) e it ((i : Int) + 1) old := Heap.get?_push_of_some _ eb
    change wpAny _ _ (Builtin.SmallTypes.ownedTupleIsFree (.ref e) >>= _) _ _ _
    apply wpAny_bind
    unfold Builtin.SmallTypes.ownedTupleIsFree
    refine wpAny_bind (wpAny_field ec rfl (x := .none) rfl (wpAny_pure ?_))
    simp only [if_true]
    refine wpAny_bind (wpAny_rule (wpAny_bind (wpAny_field ec rfl (x := old) rfl ?_)))
    refine wpAny_bind (wpAny_setField_rec ec (by simp) fun hd ed sd => ?_)
    replace ed : IsEnum hd e it ((i : Int) + 1) x := ed
    change wpAny _ _ (Builtin.SmallTypes.ownedTupleHandOut (.ref e) (.ref hb.objs.size) >>= _) _ _ _
    apply wpAny_bind
    unfold Builtin.SmallTypes.ownedTupleHandOut
    refine wpAny_bind (wpAny_setField_rec ed (by simp) fun hf ef sf => ?_)
    replace ef : IsEnumOut hf e it ((i : Int) + 1) x hb.objs.size := ef
    refine wpAny_setField_rec ef (by simp) fun hg eg sg => ?_
    replace eg : IsEnumOut hg e it ((i : Int) + 1) x hb.objs.size := eg
    have on : ∀ c o, c ≠ e → hb.get? c = some o → hg.get? c = some o := fun c o n z => sg.extBut _ _ n (sf.extBut _ _ n (sd.extBut _ _ n (Heap.get?_push_of_some _ z)))
    have new : hg.get? hb.objs.size = some { cls := .type "tuple", data := .seq #[.int i tk, x] } := sg.extBut _ _ (Nat.ne_of_gt elt) (sf.extBut _ _ (Nat.ne_of_gt elt) (sd.extBut _ _ (Nat.ne_of_gt elt) (Heap.get?_push_size _ rfl)))
    have sz : hg.objs.size = hb.objs.size + 1 := by rw [sg.1, sf.1, sd.1, Heap.size_push]
    rw [size] at eg new sz ⊢
    refine wpAny_bind (wpAny_letGo (wpAny_pure ⟨_, rfl, ?_⟩))
    refine wpAny_pure (q hg tk eg new sz fun b o n z => on b o n (sb.extBut _ _ n (sa.extBut _ _ n z)))
  · obtain ⟨ht, q⟩ := hq
    refine wpAny_bind (wpAny_isInstance (T := "StopIteration") (b := true) ht isSubtype_stop ?_)
    exact wpAny_pure q
end
open AutoSeq1 (wpAny_loadPart')
theorem meets_enumZ (z TI TO : Addr) :
    Meets (Builtin.«enumerate.__new__» ⟨[.type "enumerate", .ref z], []⟩) (fun _ R s => IsZip s.heap z TI TO .none ∧
      R (.ok (.ret (.ref s.heap.objs.size))) { s with heap := s.heap.push { cls := .type "enumerate", data := .fields #[.none, .bool false, .ref z, rawInt 0, .none, .none] } }) :=
  .of_wp fun prog w A R s h => by
    obtain ⟨hp, g, d, tk, os⟩ := s
    obtain ⟨hz, h⟩ := h
    have hsub := sub_enumerate
    have hZ : IsZip (Shared.heap ⟨hp, g, d, tk, os⟩) z TI TO .none := hz
    wp_walk using wpAny_loadPart' hz
    refine wpAny_stack_any fun st => wpAny_pure ?_
    split
    · rename_i c _ _ _ _ _
      cases (c == Value.type "enumerate") <;> (wp_walk using wpAny_loadPart' hz, wpAny_pyIter_zip hZ) <;> exact ⟨_, rfl, h⟩
    · wp_walk using wpAny_loadPart' hz, wpAny_pyIter_zip hZ
      exact ⟨_, rfl, h⟩
section
variable {prog : Program} {w : World} {A : Around} {E : Value → Shared → Prop} {s : Shared}
theorem call_enumZ {z TI TO : Addr} {Q : Value → Shared → Prop} (hz : IsZip s.heap z TI TO .none)
    (h : ∀ h', IsEnum h' s.heap.objs.size z 0 .none → (∀ b o, s.heap.get? b = some o → h'.get? b = some o) → Q (.ref s.heap.objs.size) { s with heap := h' }) :
    wpAny (model prog w) A (call (.type "enumerate") [.ref z]) Q E s := by
  refine callType_new F.called_enumerate (by decide) (F.typeCall_enumerate_1 _) (F.newCall_enumerate_1 _) (fun obj => F.args_object_init_2 obj _) F.entry_enumerate_new (meets_enumZ z TI TO) ⟨hz, ?_⟩
  have he : (s.heap.push { cls := .type "enumerate", data := .fields #[.none, .bool false, .ref z, rawInt 0, .none, .none] }).get? s.heap.objs.size = some _ := Heap.get?_push_size _ rfl
  exact ⟨⟨_, he, rfl⟩, h _ he fun b o x => Heap.get?_push_of_some _ x⟩
end
def IteZ (K : PySem.W.Frag) (a b : Addr) : It where
  go := fun i H => ∃ (xs ys : List V) (x y : V), SqT K H a xs ∧ SqT K H b ys ∧ xs[i]? = some x ∧ ys[i]? = some y
  yld := fun i H v H' => ∃ T P x y, v = .ref T ∧ H P = none ∧ H T = none ∧ T ≠ P ∧ H' = upd (upd H P (.tup [x, y])) T (.tup [.int (i : Nat), .ref P]) ∧ (∀ xs, SqT K H a xs → xs[i]? = some x) ∧ ∀ ys, SqT K H b ys → ys[i]? = some y
  stop := fun i H => ∃ xs ys : List V, SqT K H a xs ∧ SqT K H b ys ∧ (xs.length ≤ i ∨ ys.length ≤ i)
structure EZ (e z TI TO i1 i2 a b : Addr) : Prop where
  D : ZipApart z TI TO i1 i2 a b
  ez : e ≠ z
  eI : e ≠ TI
  eO : e ≠ TO
  e1 : e ≠ i1
  e2 : e ≠ i2
abbrev ezSt (e z TI TO i1 i2 a b : Addr) (i : Nat) (h : Heap) : Prop :=
  (∃ old, IsEnum h e z ((i : Nat) : Int) old) ∧ (∃ g c, ZipF h z TI TO g c ∧ Gv g) ∧ PairAt h TI (.ref i1) (.ref i2) ∧ (∃ u v, PairAt h TO u v) ∧ h.IsTupleIter i1 a i ∧ h.IsTupleIter i2 b i
theorem turn_enumZ {P : Program} {w : World} {K : PySem.W.Frag} {elts : List Expr} {kk : Nat} {tpos : Pos} {e z TI TO i1 i2 a b : Addr} (Z : EZ e z TI TO i1 i2 a b) :
    Turn P w K (.Tuple elts kk tpos) (IteZ K a b) [e, z, TI, TO, i1, i2] e (ezSt e z TI TO i1 i2 a b) where
  mem := List.mem_cons_self
  obj := by
    rintro i h ⟨⟨old, he⟩, ⟨g, c, hz, _⟩, hI, ⟨u, v, hO⟩, ⟨o1, g1, _, d1⟩, ⟨o2, g2, _, d2⟩⟩ q hq
    simp only [List.mem_cons, List.not_mem_nil, or_false] at hq
    rcases hq with rfl | rfl | rfl | rfl | rfl | rfl
    · exact ⟨_, he, fun _ z => nomatch z⟩
    · exact ⟨_, hz, fun _ z => nomatch z⟩
    · exact ⟨_, hI, fun _ z => nomatch z⟩
    · exact ⟨_, hO, fun _ z => nomatch z⟩
    · exact ⟨o1, g1, fun _ z => by rw [d1] at z; cases z⟩
    · exact ⟨o2, g2, fun _ z => by rw [d2] at z; cases z⟩
  keep := by
    rintro i h h' ⟨⟨old, he⟩, ⟨g, c, hz, hg⟩, hI, ⟨u, v, hO⟩, h1, h2⟩ k
    exact ⟨⟨old, k e (by simp) _ he⟩, ⟨g, c, k z (by simp) _ hz, hg⟩, k TI (by simp) _ hI, ⟨u, v, k TO (by simp) _ hO⟩, h1.at fun o q => k i1 (by simp) o q, h2.at fun o q => k i2 (by simp) o q⟩
  item := by
    intro X hP hw hK hc i pn s σ H E J hf st hg
    subst hP hw hK
    obtain ⟨⟨old, he⟩, ⟨g, c, hz, hgv⟩, hI, hO, h1, h2⟩ := st
    obtain ⟨xs, ys, x, y, qx, qy, hx, hy⟩ := hg
    obtain ⟨its, rv, p1, _⟩ := J.tuple qx
    obtain ⟨its2, rv2, p2, _⟩ := J.tuple qy
    obtain ⟨u, hu, ru⟩ := rv.get hx
    obtain ⟨u2, hu2, ru2⟩ := rv2.get hy
    have el : e < s.heap.objs.size := Heap.lt_size he
    have tz : s.TypeIs (.ref z) "zip" := ⟨_, hz, rfl⟩
    have lt : ∀ q ∈ [e, z, TI, TO, i1, i2], q < s.heap.objs.size := by
      intro q hq
      simp only [List.mem_cons, List.not_mem_nil, or_false] at hq
      rcases hq with rfl | rfl | rfl | rfl | rfl | rfl
      · exact el
      · exact Heap.lt_size hz
      · exact Heap.lt_size hI
      · obtain ⟨_, _, q⟩ := hO; exact Heap.lt_size q
      · obtain ⟨_, q, _⟩ := h1; exact Heap.lt_size q
      · obtain ⟨_, q, _⟩ := h2; exact Heap.lt_size q
    refine enum_next he ?_
    unfold Builtin.SmallTypes.nextOf
    refine wpAny_bind (wpAny_callSpecial?_slot (name := Str.ofString "__next__") tz F.slot_zip_next (wpAny_call_entry F.slot_zip_next tz F.entry_zip_next ?_ (F.args_zip_next_1 _)))
    refine zipF_item Z.D hz hgv hI hO h1 h2 p1 p2 (x := u) (y := u2) (by simpa using hu) (by simpa using hu2) fun hA gA bA zA vA oA a1 a2 pA szA kA => ?_
    refine wpAny_pure ⟨kA _ _ Z.ez Z.eO Z.e1 Z.e2 he, fun hB tk eB tB szB kB => ?_⟩
    dsimp only at eB tB szB kB ⊢
    rw [szA] at eB tB szB ⊢
    refine ⟨_, rfl, wpAny_letOwnedTupleGo_enum (s := { s with heap := hB, toks := tk + 1 }) eB fun hC eC sC => ?_⟩
    have ne1 : ∀ q, q < s.heap.objs.size + 1 → q ≠ s.heap.objs.size + 1 := fun q h => Nat.ne_of_lt h
    have npe : s.heap.objs.size ≠ e := Nat.ne_of_gt el
    have upB : ∀ q o, q ≠ e → hA.get? q = some o → hC.get? q = some o := fun q o n z => (sC.2 q n).trans (kB q o n z)
    -- the pair, then the tuple
    have newP : ObjOk X.prog X.w (upd H s.heap.objs.size (.tup [x, y])) hA s.heap.objs.size (.tup [x, y]) := ⟨small_line (by show 2 ≤ 100000; omega), [u, u2], .cons ru (.cons ru2 .nil), ⟨_, pA, rfl, _, rfl⟩⟩
    have J1 : Inv X pn σ (upd H s.heap.objs.size (.tup [x, y])) { s with heap := hA } :=
      J.turnedNew (t' := s.toks) (ch := [e, z, TI, TO, i1, i2]) (fun q o hq z => kA q o (fun t => hq (by simp [t])) (fun t => hq (by simp [t])) (fun t => hq (by simp [t])) (fun t => hq (by simp [t])) z) hf (Nat.le_refl _) newP
    have hf1 : ∀ q ∈ [e], FpOk X pn (upd H s.heap.objs.size (.tup [x, y])) q := fun q hq => by
      obtain ⟨f0, f1⟩ := hf q (by simp at hq; simp [hq])
      exact ⟨by rw [upd_ne (Nat.ne_of_lt (lt q (by simp at hq; simp [hq])))]; exact f0, f1⟩
    have tC : hC.get? (s.heap.objs.size + 1) = some { cls := .type "tuple", data := .seq #[.int i tk, .ref s.heap.objs.size] } := (sC.2 _ (Nat.ne_of_gt (Nat.lt_succ_of_lt el))).trans tB
    have newT : ObjOk X.prog X.w (upd (upd H s.heap.objs.size (.tup [x, y])) (s.heap.objs.size + 1) (.tup [.int (i : Nat), .ref s.heap.objs.size])) hC (s.heap.objs.size + 1) (.tup [.int (i : Nat), .ref s.heap.objs.size]) :=
      ⟨small_line (by show 2 ≤ 100000; omega), [.int i tk, .ref s.heap.objs.size], .cons ⟨_, rfl⟩ (.cons rfl .nil), ⟨_, tC, rfl, _, rfl⟩⟩
    have J2 : Inv X pn σ (upd (upd H s.heap.objs.size (.tup [x, y])) (s.heap.objs.size + 1) (.tup [.int (i : Nat), .ref s.heap.objs.size])) { s with heap := hC, toks := tk + 1 } :=
      J1.turnedNew (ch := [e]) (fun q o hq z => upB q o (fun t => hq (by simp [t])) z) hf1 (by show hA.objs.size ≤ _; rw [szA]; exact Nat.le_refl _) newT
    have fr1 : H (s.heap.objs.size + 1) = none := J.hok.fresh (Nat.le_succ _)
    refine ⟨.ref (s.heap.objs.size + 1), _, J2, rfl, ⟨_, _, x, y, rfl, J.hok.fresh (Nat.le_refl _), fr1, Nat.succ_ne_self _, rfl, fun l hl => by rw [J.tuple_inj hl qx]; exact hx, fun l hl => by rw [J.tuple_inj hl qy]; exact hy⟩, ?_, fun q hq => ?_⟩
    · refine ⟨⟨.ref s.heap.objs.size, ?_⟩, ⟨gA, bA, upB _ _ Z.ez.symm zA, vA⟩, ?_, ?_, a1.at fun o q => upB _ o Z.e1.symm q, a2.at fun o q => upB _ o Z.e2.symm q⟩
      · rw [show ((i + 1 : Nat) : Int) = (i : Int) + 1 by omega]
        exact eC
      · exact upB _ _ Z.eI.symm (kA _ _ Z.D.TIz Z.D.TITO Z.D.TIi1 Z.D.TIi2 hI)
      · obtain ⟨u', v', q⟩ := oA
        exact ⟨u', v', upB _ _ Z.eO.symm q⟩
    · have := lt q hq
      rw [upd_ne (Nat.ne_of_lt (Nat.lt_succ_of_lt this)), upd_ne (Nat.ne_of_lt this)]
      exact (hf q hq).1
  done := by
    intro X hP hw hK hc i pn s σ H E J hf st hg
    subst hP hw hK
    obtain ⟨⟨old, he⟩, ⟨g, c, hz, hgv⟩, hI, hO, h1, h2⟩ := st
    obtain ⟨xs, ys, qx, qy, hend⟩ := hg
    obtain ⟨its, rv, p1, _⟩ := J.tuple qx
    obtain ⟨its2, rv2, p2, _⟩ := J.tuple qy
    have l1 := rv.length
    have l2 := rv2.length
    have ends : its.toArray[i]? = none ∨ its2.toArray[i]? = none := by
      rcases hend with q | q
      · exact .inl (by simp; omega)
      · exact .inr (by simp; omega)
    have tz : s.TypeIs (.ref z) "zip" := ⟨_, hz, rfl⟩
    refine enum_next he ?_
    unfold Builtin.SmallTypes.nextOf
    refine wpAny_bind (wpAny_callSpecial?_slot (name := Str.ofString "__next__") tz F.slot_zip_next (wpAny_call_entry F.slot_zip_next tz F.entry_zip_next ?_ (F.args_zip_next_1 _)))
    refine zipF_end (by show X.A.in1.in1.handled = none; exact J.ok.hd hc) Z.D hz hgv hI hO h1 h2 p1 p2 ends fun h' x k hx => ?_
    obtain ⟨o, ho, hcx⟩ := hx
    exact ⟨⟨o, ho, hcx⟩, rfl, J.turnedL (t' := s.toks) (ch := [e, z, TI, TO, i1, i2]) (fun q o hq z => k q o (fun t => hq (by simp [t])) (fun t => hq (by simp [t])) (fun t => hq (by simp [t])) (fun t => hq (by simp [t])) z) hf⟩
  self := fun A i s Q E ⟨⟨_, he⟩, _⟩ h => wpAny_pyIter_enum he h
def iEnumZ (K : PySem.W.Frag) (ta : TA) : TI := fun σ H R => ta σ H fun vs H1 => ∃ a b xs ys, vs = [.ref a, .ref b] ∧ SqT K H1 a xs ∧ SqT K H1 b ys ∧ R (IteZ K a b) H1
theorem pi_enumZ {X : Cx} {e e2 : Expr} {ta : TA} {p pos p2 pos2 tpos : Pos} {elts : List Expr} {kk : Nat} (hg : Gl X "enumerate") (hm : X.mg "enumerate" = none) (hg2 : Gl X "zip") (hm2 : X.mg "zip" = none) (ha : PA X [e, e2] ta)
    (hs : starEach [Expr.Call (.Name "zip" p2) [e, e2] [] pos2] X.env = [(false, eval (.Call (.Name "zip" p2) [e, e2] [] pos2) X.env)] := by rfl)
    (hs2 : starEach [e, e2] X.env = (false, eval e X.env) :: starEach [e2] X.env := by rfl) (hpl2 : (backTo pos2 (starEach [e2] X.env)).any (·.1) = false := by rfl) :
    PI X (.Tuple elts kk tpos) (.Call (.Name "enumerate" p) [.Call (.Name "zip" p2) [e, e2] [] pos2] [] pos) (iEnumZ X.K ta) := by
  constructor
  intro pn s σ H R J h
  refine Call_ (ld_blt J hg hm boot_enumerate ?_)
  refine PyProof.Rows.callWith_type1 ?_ hs rfl
  rw [hs]
  refine Calls.spliced_cons ?_
  refine Call_ (ld_blt J hg2 hm2 PyProof.Rows.boot_zip ?_)
  refine PyProof.Rows.callWith_type1 (thn (ha.run pos2 pn s σ H _ J h) ?_) hs2 hpl2
  rintro us s1 ⟨vs, H1, J1, r1, a, b, xs, ys, rfl, qx, qy, q⟩
  obtain ⟨u1, u2, rfl, e1, e2'⟩ := vals2 r1
  cases e1
  cases e2'
  obtain ⟨its, rv, p1, _⟩ := J1.tuple qx
  obtain ⟨its2, rv2, p2', _⟩ := J1.tuple qy
  have al : a < s1.heap.objs.size := by obtain ⟨o, ho, _⟩ := p1; exact Heap.lt_size ho
  have bl : b < s1.heap.objs.size := by obtain ⟨o, ho, _⟩ := p2'; exact Heap.lt_size ho
  refine call_zipT (show s1.heap.IsTuple a its.toArray from p1) (show s1.heap.IsTuple b its2.toArray from p2') fun h' hz hTI hTO h1 h2 hsz hk => ?_
  refine Calls.spliced_nil ?_
  refine call_enumZ (s := { s1 with heap := h' }) hz fun h'' he hk2 => wpAny_pyIter_enum he ?_
  have J2 : Inv X pn σ H1 { s1 with heap := h'' } := J1.kept (t' := s1.toks) fun c o z => hk2 c o (hk c o z)
  have sz : (Shared.heap { s1 with heap := h' }).objs.size = s1.heap.objs.size + 5 := hsz
  rw [sz] at he ⊢
  have N := PySem.W.ktu_apart s1.heap.objs.size a b al bl
  refine ⟨s1.heap.objs.size + 5, [s1.heap.objs.size + 5, s1.heap.objs.size + 4, s1.heap.objs.size + 2, s1.heap.objs.size + 3, s1.heap.objs.size, s1.heap.objs.size + 1], _, _, H1, rfl, J2,
    turn_enumZ (e := s1.heap.objs.size + 5) (z := s1.heap.objs.size + 4) (TI := s1.heap.objs.size + 2) (TO := s1.heap.objs.size + 3) (i1 := s1.heap.objs.size) (i2 := s1.heap.objs.size + 1) ⟨N, ?_, ?_, ?_, ?_, ?_⟩,
    ⟨⟨_, he⟩, ⟨_, _, hk2 _ _ hz, .inl rfl⟩, hk2 _ _ hTI, ⟨_, _, hk2 _ _ hTO⟩, h1.at fun o q => hk2 _ o q, h2.at fun o q => hk2 _ o q⟩, fun c hc => ?_, q⟩
  · exact Nat.ne_of_gt (Nat.add_lt_add_left (by decide) _)
  · exact Nat.ne_of_gt (Nat.add_lt_add_left (by decide) _)
  · exact Nat.ne_of_gt (Nat.add_lt_add_left (by decide) _)
  · exact Nat.ne_of_gt (Nat.lt_add_of_pos_right (by decide))
  · exact Nat.ne_of_gt (Nat.add_lt_add_left (by decide) _)
  · have hle : s1.heap.objs.size ≤ c := by
      simp only [List.mem_cons, List.not_mem_nil, or_false] at hc
      rcases hc with rfl | rfl | rfl | rfl | rfl | rfl
      · exact Nat.le_add_right _ _
      · exact Nat.le_add_right _ _
      · exact Nat.le_add_right _ _
      · exact Nat.le_add_right _ _
      · exact Nat.le_refl _
      · exact Nat.le_add_right _ _
    exact J1.fpOk hle (J1.hok.fresh hle)
/-- the i-th of both in a new pair, that in a new tuple behind its number -/
def YNum (xs ys : Nat → Option V) : Nat → Hp → V → Hp → Prop := fun i H v H' => ∃ T P x y, v = .ref T ∧ H P = none ∧ H T = none ∧ T ≠ P ∧ H' = upd (upd H P (.tup [x, y])) T (.tup [.int (i : Nat), .ref P]) ∧ xs i = some x ∧ ys i = some y
theorem walk_enumZ {K : PySem.W.Frag} {a b : Addr} {xs ys : List V} : Walk (IteZ K a b) (min xs.length ys.length) (fun H => SqT K H a xs ∧ SqT K H b ys) (YNum (fun i => xs[i]?) (fun i => ys[i]?)) := by
  constructor
  · intro i H hi q
    exact ⟨xs, ys, xs[i]'(by omega), ys[i]'(by omega), q.1, q.2, by simp [show i < xs.length by omega], by simp [show i < ys.length by omega]⟩
  · intro H q
    exact ⟨xs, ys, q.1, q.2, by omega⟩
  · rintro i H v H' hi q ⟨T, P, x, y, h1, h2, h3, h4, h5, h6, h7⟩
    exact ⟨T, P, x, y, h1, h2, h3, h4, h5, h6 xs q.1, h7 ys q.2⟩
end GS
namespace M15
structure Sh (xs : List Int) : Prop where
  n : xs.length ≤ 20
  a : ∀ x ∈ xs, 1 ≤ x ∧ x ≤ 20
  f : xs.Pairwise (fun x y => y ≤ x)
abbrev gd (xs : List Int) (k : Nat) : Int := xs.getD k 0
theorem gd_at {xs : List Int} {k : Nat} (h : k < xs.length) : gd xs k = xs[k] := by
  unfold gd
  rw [List.getD_eq_getElem?_getD, List.getElem?_eq_getElem h]
  rfl
theorem gd_out {xs : List Int} {k : Nat} (h : xs.length ≤ k) : gd xs k = 0 := by
  unfold gd
  rw [List.getD_eq_getElem?_getD, List.getElem?_eq_none h]
  rfl
structure Sq (xs : List Int) : Prop where
  n : xs.length ≤ 20
  a : ∀ k, k < xs.length → 1 ≤ gd xs k ∧ gd xs k ≤ 20
  f : ∀ k, k + 1 < xs.length → gd xs (k + 1) ≤ gd xs k
theorem Sq.le {xs : List Int} (h : Sq xs) : ∀ (d i : Nat), i + d < xs.length → gd xs (i + d) ≤ gd xs i
  | 0, i, _ => Int.le_refl _
  | d + 1, i, hl => Int.le_trans (h.f (i + d) hl) (h.le d i (by omega))
theorem sq_iff {xs : List Int} : Sh xs ↔ Sq xs := by
  constructor
  · intro h
    refine ⟨h.n, fun k hk => ?_, fun k hk => ?_⟩
    · rw [gd_at hk]
      exact h.a _ (List.getElem_mem hk)
    · rw [gd_at hk, gd_at (by omega)]
      exact List.pairwise_iff_getElem.mp h.f k (k + 1) (by omega) hk (by omega)
  · intro h
    refine ⟨h.n, fun x m => ?_, ?_⟩
    · obtain ⟨k, hk, rfl⟩ := List.mem_iff_getElem.mp m
      have := h.a k hk
      rw [gd_at hk] at this
      exact this
    · rw [List.pairwise_iff_getElem]
      intro i j hi hj hij
      have := h.le (j - i) i (by omega)
      rw [show i + (j - i) = j by omega, gd_at hi, gd_at hj] at this
      exact this
theorem gd_set {xs : List Int} {r k : Nat} {v : Int} (h : r < xs.length) : gd (xs.set r v) k = if k = r then v else gd xs k := by
  unfold gd
  rw [List.getD_eq_getElem?_getD, List.getD_eq_getElem?_getD, List.getElem?_set]
  by_cases c : r = k
  · subst c
    rw [if_pos rfl, if_pos h, if_pos rfl]
    rfl
  · rw [if_neg c, if_neg (fun z => c z.symm)]
theorem gd_snoc {xs : List Int} {k : Nat} {v : Int} : gd (xs ++ [v]) k = if k < xs.length then gd xs k else if k = xs.length then v else 0 := by
  unfold gd
  rw [List.getD_eq_getElem?_getD, List.getD_eq_getElem?_getD]
  by_cases c : k < xs.length
  · rw [if_pos c, List.getElem?_append_left c]
  · rw [if_neg c, List.getElem?_append_right (by omega)]
    by_cases c2 : k = xs.length
    · rw [if_pos c2, c2, Nat.sub_self]
      rfl
    · rw [if_neg c2, List.getElem?_eq_none (by simp; omega)]
      rfl
theorem gd_cons {x : Int} {xs : List Int} {k : Nat} : gd (x :: xs) k = if k = 0 then x else gd xs (k - 1) := by
  cases k with
  | zero => rfl
  | succ k => rfl
theorem gd_drop {xs : List Int} {k : Nat} : gd (xs.drop 1 ++ [0]) k = gd xs (k + 1) := by
  rw [gd_snoc, List.length_drop]
  by_cases c : k < xs.length - 1
  · rw [if_pos c]
    unfold gd
    rw [List.getD_eq_getElem?_getD, List.getD_eq_getElem?_getD, List.getElem?_drop, Nat.add_comm]
  · rw [if_neg c, gd_out (show xs.length ≤ k + 1 by omega)]
    split <;> rfl
theorem gd_take {xs : List Int} {n k : Nat} : gd (xs.take n) k = if k < n then gd xs k else 0 := by
  unfold gd
  rw [List.getD_eq_getElem?_getD, List.getD_eq_getElem?_getD, List.getElem?_take]
  split <;> rfl
theorem set_cut {xs : List Int} {r : Nat} {v : Int} (h : r < xs.length) : xs.set r v = xs.take r ++ [v] ++ xs.drop (r + 1) := by
  rw [List.set_eq_take_append_cons_drop, if_pos h, List.append_assoc]
  rfl
def pRoom (h w : Int) (xs : List Int) (i : Nat) : Bool := decide (gd (xs ++ [0]) i < gd (w :: xs) i) && decide ((i : Int) < h)
def pOut (xs : List Int) (i : Nat) : Bool := decide (gd (xs.drop 1 ++ [0]) i < gd xs i)
def putL (xs : List Int) (i : Nat) : List Int := if i = xs.length then xs ++ [1] else xs.take i ++ [gd xs i + 1] ++ xs.drop (i + 1)
def takenL (xs : List Int) (i : Nat) : List Int := if gd xs i = 1 then xs.take i else xs.take i ++ [gd xs i - 1] ++ xs.drop (i + 1)
theorem put_set {xs : List Int} {i : Nat} (h : i < xs.length) : putL xs i = xs.set i (gd xs i + 1) := by
  unfold putL
  rw [if_neg (by omega), set_cut h]
theorem taken_set {xs : List Int} {i : Nat} (h : i < xs.length) (h1 : gd xs i ≠ 1) : takenL xs i = xs.set i (gd xs i - 1) := by
  unfold takenL
  rw [if_neg h1, set_cut h]
/-- a cell may come just where it leaves a share -/
theorem room_iff {xs : List Int} (hx : Sh xs) {r : Nat} (hr : r ≤ xs.length) : pRoom 20 20 xs r = true ↔ Sh (putL xs r) := by
  have h := sq_iff.mp hx
  have hn := h.n
  rw [sq_iff]
  unfold pRoom
  rw [Bool.and_eq_true, decide_eq_true_eq, decide_eq_true_eq]
  by_cases c : r = xs.length
  · subst c
    have e : putL xs xs.length = xs ++ [1] := by unfold putL; rw [if_pos rfl]
    rw [e, gd_snoc, if_neg (Nat.lt_irrefl _), if_pos rfl, gd_cons]
    constructor
    · rintro ⟨h1, h2⟩
      refine ⟨by rw [List.length_append]; show xs.length + 1 ≤ 20; omega, fun k hk => ?_, fun k hk => ?_⟩
      · rw [List.length_append] at hk
        rw [gd_snoc]
        by_cases ck : k < xs.length
        · rw [if_pos ck]; exact h.a k ck
        · rw [if_neg ck, if_pos (by have : k < xs.length + 1 := hk; omega)]; decide
      · rw [List.length_append] at hk
        have hk' : k + 1 < xs.length + 1 := hk
        rw [gd_snoc, gd_snoc, if_pos (show k < xs.length by omega)]
        by_cases ck : k + 1 < xs.length
        · rw [if_pos ck]; exact h.f k ck
        · rw [if_neg ck, if_pos (by omega)]
          exact (h.a k (by omega)).1
    · intro q
      have q1 := q.n
      rw [List.length_append] at q1
      have q1' : xs.length + 1 ≤ 20 := q1
      refine ⟨?_, by omega⟩
      by_cases c0 : xs.length = 0
      · rw [if_pos c0]; decide
      · rw [if_neg c0]
        have := (h.a (xs.length - 1) (by omega)).1
        omega
  · have hr' : r < xs.length := by omega
    rw [put_set hr', gd_snoc, if_pos hr', gd_cons]
    constructor
    · rintro ⟨h1, h2⟩
      refine ⟨by rw [List.length_set]; exact hn, fun k hk => ?_, fun k hk => ?_⟩
      · rw [List.length_set] at hk
        rw [gd_set hr']
        have hb := h.a k hk
        split
        · rename_i e
          subst e
          refine ⟨by omega, ?_⟩
          by_cases c0 : k = 0
          · rw [if_pos c0] at h1; omega
          · rw [if_neg c0] at h1
            have := (h.a (k - 1) (by omega)).2
            omega
        · exact hb
      · rw [List.length_set] at hk
        rw [gd_set hr', gd_set hr']
        have hf := h.f k hk
        by_cases c1 : k + 1 = r
        · rw [if_pos c1, if_neg (by omega)]
          rw [if_neg (by omega)] at h1
          have e : r - 1 = k := by omega
          rw [e] at h1
          omega
        · rw [if_neg c1]
          split
          · rename_i e
            subst e
            omega
          · exact hf
    · intro q
      refine ⟨?_, by omega⟩
      by_cases c0 : r = 0
      · rw [if_pos c0]
        have := (q.a r (by rw [List.length_set]; exact hr')).2
        rw [gd_set hr', if_pos rfl] at this
        omega
      · rw [if_neg c0]
        have := q.f (r - 1) (by rw [List.length_set]; omega)
        rw [show r - 1 + 1 = r by omega, gd_set hr', gd_set hr', if_pos rfl, if_neg (by omega)] at this
        omega
/-- what is left where the last cell of the row goes, a row without cells at the end left out -/
def left (xs : List Int) (r : Nat) : List Int := if r + 1 = xs.length ∧ gd xs r = 1 then xs.take r else xs.set r (gd xs r - 1)
theorem sh_take {xs : List Int} (h : Sh xs) (n : Nat) : Sh (xs.take n) :=
  ⟨by rw [List.length_take]; have := h.n; omega, fun x m => h.a x (List.mem_of_mem_take m), h.f.sublist (List.take_sublist _ _)⟩
theorem out_iff {xs : List Int} (hx : Sh xs) {r : Nat} (hr : r < xs.length) : pOut xs r = true ↔ Sh (left xs r) := by
  have h := sq_iff.mp hx
  unfold pOut left
  rw [decide_eq_true_eq, gd_drop]
  by_cases c : r + 1 = xs.length ∧ gd xs r = 1
  · rw [if_pos c, c.2, gd_out (by omega)]
    exact ⟨fun _ => sh_take hx r, fun _ => by decide⟩
  · rw [if_neg c, sq_iff]
    have hb := h.a r hr
    constructor
    · intro h1
      have h2 : r + 1 < xs.length → 1 ≤ gd xs (r + 1) := fun z => (h.a _ z).1
      have h3 : 2 ≤ gd xs r := by
        by_cases c1 : r + 1 < xs.length
        · have := h2 c1; omega
        · have : r + 1 = xs.length := by omega
          have : gd xs r ≠ 1 := fun z => c ⟨this, z⟩
          omega
      refine ⟨by rw [List.length_set]; exact h.n, fun k hk => ?_, fun k hk => ?_⟩
      · rw [List.length_set] at hk
        rw [gd_set hr]
        have := h.a k hk
        split
        · rename_i e; subst e; omega
        · exact this
      · rw [List.length_set] at hk
        rw [gd_set hr, gd_set hr]
        have := h.f k hk
        by_cases c1 : k + 1 = r
        · rw [if_pos c1, if_neg (by omega)]
          rw [c1] at this
          omega
        · rw [if_neg c1]
          split
          · rename_i e; subst e; omega
          · exact this
    · intro q
      by_cases c1 : r + 1 < xs.length
      · have := q.f r (by rw [List.length_set]; exact c1)
        rw [gd_set hr, gd_set hr, if_pos rfl, if_neg (by omega)] at this
        omega
      · rw [gd_out (by omega)]
        omega
theorem left_taken {xs : List Int} (hx : Sh xs) {r : Nat} (hr : r < xs.length) (ho : pOut xs r = true) : left xs r = takenL xs r := by
  have h := sq_iff.mp hx
  unfold left
  by_cases c : gd xs r = 1
  · have : r + 1 = xs.length := by
      unfold pOut at ho
      rw [decide_eq_true_eq, gd_drop, c] at ho
      by_cases c1 : r + 1 < xs.length
      · have := (h.a _ c1).1
        omega
      · omega
    rw [if_pos ⟨this, c⟩]
    unfold takenL
    rw [if_pos c]
  · rw [if_neg fun z => c z.2, taken_set hr c]
theorem taken_sh {xs : List Int} (hx : Sh xs) {r : Nat} (hr : r < xs.length) (ho : pOut xs r = true) : Sh (takenL xs r) := by
  rw [← left_taken hx hr ho]
  exact (out_iff hx hr).mp ho
/-- there and back -/
theorem put_taken {xs : List Int} (hx : Sh xs) {r : Nat} (hr : r ≤ xs.length) (hp : pRoom 20 20 xs r = true) : r < (putL xs r).length ∧ pOut (putL xs r) r = true ∧ takenL (putL xs r) r = xs := by
  have h := sq_iff.mp hx
  by_cases c : r = xs.length
  · subst c
    have e : putL xs xs.length = xs ++ [1] := by unfold putL; rw [if_pos rfl]
    have g : gd (xs ++ [1]) xs.length = 1 := by rw [gd_snoc, if_neg (Nat.lt_irrefl _), if_pos rfl]
    rw [e]
    refine ⟨by rw [List.length_append]; show xs.length < xs.length + 1; omega, ?_, ?_⟩
    · unfold pOut
      rw [decide_eq_true_eq, gd_drop, g, gd_out (by rw [List.length_append]; exact Nat.le_refl _)]
      decide
    · unfold takenL
      rw [if_pos g, List.take_left]
  · have hr' : r < xs.length := by omega
    have hb := h.a r hr'
    have g : gd (xs.set r (gd xs r + 1)) r = gd xs r + 1 := by rw [gd_set hr', if_pos rfl]
    rw [put_set hr']
    refine ⟨by rw [List.length_set]; exact hr', ?_, ?_⟩
    · unfold pOut
      rw [decide_eq_true_eq, gd_drop, g, gd_set hr', if_neg (by omega)]
      by_cases c1 : r + 1 < xs.length
      · have := h.f r c1; omega
      · rw [gd_out (by omega)]; omega
    · rw [taken_set (by rw [List.length_set]; exact hr') (by rw [g]; omega), g, List.set_set, show gd xs r + 1 - 1 = gd xs r by omega, gd_at hr', List.set_getElem_self]
theorem taken_put {xs : List Int} (hx : Sh xs) {r : Nat} (hr : r < xs.length) (ho : pOut xs r = true) : r ≤ (takenL xs r).length ∧ pRoom 20 20 (takenL xs r) r = true ∧ putL (takenL xs r) r = xs := by
  have h := sq_iff.mp hx
  have hs := taken_sh hx hr ho
  have key : r ≤ (takenL xs r).length ∧ putL (takenL xs r) r = xs := by
    by_cases c : gd xs r = 1
    · have e : takenL xs r = xs.take r := by unfold takenL; rw [if_pos c]
      have l : (xs.take r).length = r := by rw [List.length_take]; omega
      have last : r + 1 = xs.length := by
        unfold pOut at ho
        rw [decide_eq_true_eq, gd_drop, c] at ho
        by_cases c1 : r + 1 < xs.length
        · have := (h.a _ c1).1
          omega
        · omega
      rw [e]
      refine ⟨by omega, ?_⟩
      unfold putL
      rw [if_pos l.symm]
      have : xs = xs.take r ++ [xs[r]] := by
        conv => lhs; rw [← List.take_append_drop r xs]
        congr 1
        rw [List.drop_eq_getElem_cons hr, List.drop_of_length_le (by omega)]
      conv => rhs; rw [this]
      rw [← gd_at hr, c]
    · rw [taken_set hr c]
      refine ⟨by rw [List.length_set]; omega, ?_⟩
      rw [put_set (by rw [List.length_set]; exact hr), gd_set hr, if_pos rfl, List.set_set, show gd xs r - 1 + 1 = gd xs r by omega, gd_at hr, List.set_getElem_self]
  refine ⟨key.1, ?_, key.2⟩
  rw [room_iff hs key.1, key.2]
  exact hx
end M15
namespace M15
/-- a share of at most h rows, none longer than w -/
structure Shw (h w : Int) (xs : List Int) : Prop where
  n : (xs.length : Int) ≤ h
  a : ∀ k, k < xs.length → 1 ≤ gd xs k ∧ gd xs k ≤ w
  f : ∀ k, k + 1 < xs.length → gd xs (k + 1) ≤ gd xs k
theorem shw_sh {xs : List Int} : Shw 20 20 xs ↔ Sh xs := by
  rw [sq_iff]
  constructor
  · intro h
    exact ⟨by have := h.n; omega, h.a, h.f⟩
  · intro h
    exact ⟨by have := h.n; omega, h.a, h.f⟩
theorem roomw_iff {h w : Int} {xs : List Int} (hx : Shw h w xs) {r : Nat} (hr : r ≤ xs.length) : pRoom h w xs r = true ↔ Shw h w (putL xs r) := by
  have hn := hx.n
  unfold pRoom
  rw [Bool.and_eq_true, decide_eq_true_eq, decide_eq_true_eq]
  by_cases c : r = xs.length
  · subst c
    have e : putL xs xs.length = xs ++ [1] := by unfold putL; rw [if_pos rfl]
    rw [e, gd_snoc, if_neg (Nat.lt_irrefl _), if_pos rfl, gd_cons]
    constructor
    · rintro ⟨h1, h2⟩
      refine ⟨by rw [List.length_append]; show ((xs.length + 1 : Nat) : Int) ≤ h; omega, fun k hk => ?_, fun k hk => ?_⟩
      · rw [List.length_append] at hk
        rw [gd_snoc]
        by_cases ck : k < xs.length
        · rw [if_pos ck]; exact hx.a k ck
        · rw [if_neg ck, if_pos (by have : k < xs.length + 1 := hk; omega)]
          refine ⟨Int.le_refl _, ?_⟩
          by_cases c0 : xs.length = 0
          · rw [if_pos c0] at h1; omega
          · have := hx.a (xs.length - 1) (by omega)
            omega
      · rw [List.length_append] at hk
        have hk' : k + 1 < xs.length + 1 := hk
        rw [gd_snoc, gd_snoc, if_pos (show k < xs.length by omega)]
        by_cases ck : k + 1 < xs.length
        · rw [if_pos ck]; exact hx.f k ck
        · rw [if_neg ck, if_pos (by omega)]
          exact (hx.a k (by omega)).1
    · intro q
      have q1 := q.n
      rw [List.length_append] at q1
      have q1' : ((xs.length + 1 : Nat) : Int) ≤ h := q1
      refine ⟨?_, by omega⟩
      by_cases c0 : xs.length = 0
      · rw [if_pos c0]
        have := (q.a xs.length (by rw [List.length_append]; show xs.length < xs.length + 1; omega)).2
        rw [gd_snoc, if_neg (Nat.lt_irrefl _), if_pos rfl] at this
        omega
      · rw [if_neg c0]
        have := (hx.a (xs.length - 1) (by omega)).1
        omega
  · have hr' : r < xs.length := by omega
    rw [put_set hr', gd_snoc, if_pos hr', gd_cons]
    constructor
    · rintro ⟨h1, h2⟩
      refine ⟨by rw [List.length_set]; exact hn, fun k hk => ?_, fun k hk => ?_⟩
      · rw [List.length_set] at hk
        rw [gd_set hr']
        have hb := hx.a k hk
        split
        · rename_i e
          subst e
          refine ⟨by omega, ?_⟩
          by_cases c0 : k = 0
          · rw [if_pos c0] at h1; omega
          · rw [if_neg c0] at h1
            have := (hx.a (k - 1) (by omega)).2
            omega
        · exact hb
      · rw [List.length_set] at hk
        rw [gd_set hr', gd_set hr']
        have hf := hx.f k hk
        by_cases c1 : k + 1 = r
        · rw [if_pos c1, if_neg (by omega)]
          rw [if_neg (by omega)] at h1
          have e : r - 1 = k := by omega
          rw [e] at h1
          omega
        · rw [if_neg c1]
          split
          · rename_i e
            subst e
            omega
          · exact hf
    · intro q
      refine ⟨?_, by omega⟩
      by_cases c0 : r = 0
      · rw [if_pos c0]
        have := (q.a r (by rw [List.length_set]; exact hr')).2
        rw [gd_set hr', if_pos rfl] at this
        omega
      · rw [if_neg c0]
        have := q.f (r - 1) (by rw [List.length_set]; omega)
        rw [show r - 1 + 1 = r by omega, gd_set hr', gd_set hr', if_pos rfl, if_neg (by omega)] at this
        omega
/-- a share fits where it has no more rows, and its first one is no longer -/
theorem fits_iff {h w : Int} {xs : List Int} (hx : Sh xs) : Shw h w xs ↔ ((xs.length : Int) ≤ h ∧ (xs = [] ∨ gd xs 0 ≤ w)) := by
  have q := sq_iff.mp hx
  constructor
  · intro s
    refine ⟨s.n, ?_⟩
    by_cases c : xs.length = 0
    · exact .inl (List.eq_nil_of_length_eq_zero c)
    · exact .inr (s.a 0 (by omega)).2
  · rintro ⟨h1, h2⟩
    refine ⟨h1, fun k hk => ⟨(q.a k hk).1, ?_⟩, q.f⟩
    rcases h2 with rfl | h2
    · exact absurd hk (Nat.not_lt_zero _)
    · have := q.le k 0 (by omega)
      rw [Nat.zero_add] at this
      omega
end M15
namespace K14
open PySem PySem.Spec PyProof.Rows L2 RZ GS M15
def topS (i : Nat) : Stmt := PySem.Challenge.pw_gridshares_k14_rows_where_cells_come_and.main.body.getD i (.Pass ⟨0, 0, 0, 0⟩)
abbrev stis_whole : Stmt := topS 19
abbrev Nis_whole : List Str := ["thing"]
theorem scis_whole : FnScope Nis_whole ["thing"] (defScope stis_whole) := ⟨rfl, rfl, rfl, by decide +kernel, rfl, by decide +kernel, by decide +kernel⟩
abbrev stis_whole_from : Stmt := topS 20
abbrev Nis_whole_from : List Str := ["least", "most", "thing"]
theorem scis_whole_from : FnScope Nis_whole_from ["least", "most", "thing"] (defScope stis_whole_from) := ⟨rfl, rfl, rfl, by decide +kernel, rfl, by decide +kernel, by decide +kernel⟩
abbrev stis_box : Stmt := topS 25
abbrev Nis_box : List Str := ["thing", "side"]
theorem scis_box : FnScope Nis_box ["thing"] (defScope stis_box) := ⟨rfl, rfl, rfl, by decide +kernel, rfl, by decide +kernel, by decide +kernel⟩
abbrev stneed_box : Stmt := topS 26
abbrev Nneed_box : List Str := ["thing"]
theorem scneed_box : FnScope Nneed_box ["thing"] (defScope stneed_box) := ⟨rfl, rfl, rfl, by decide +kernel, rfl, by decide +kernel, by decide +kernel⟩
abbrev stfits_in : Stmt := topS 27
abbrev Nfits_in : List Str := ["box", "share", "high", "wide"]
theorem scfits_in : FnScope Nfits_in ["box", "share"] (defScope stfits_in) := ⟨rfl, rfl, rfl, by decide +kernel, rfl, by decide +kernel, by decide +kernel⟩
abbrev stneed_fit : Stmt := topS 28
abbrev Nneed_fit : List Str := ["box", "share"]
theorem scneed_fit : FnScope Nneed_fit ["box", "share"] (defScope stneed_fit) := ⟨rfl, rfl, rfl, by decide +kernel, rfl, by decide +kernel, by decide +kernel⟩
abbrev stin_rows : Stmt := topS 30
abbrev Nin_rows : List Str := ["share"]
theorem scin_rows : FnScope Nin_rows ["share"] (defScope stin_rows) := ⟨rfl, rfl, rfl, by decide +kernel, rfl, by decide +kernel, by decide +kernel⟩
abbrev stout_rows : Stmt := topS 31
abbrev Nout_rows : List Str := ["share", "below", "row", "length", "under"]
theorem scout_rows : FnScope Nout_rows ["share"] (defScope stout_rows) := ⟨rfl, rfl, rfl, by decide +kernel, rfl, by decide +kernel, by decide +kernel⟩
abbrev stin_rows_of : Stmt := topS 32
abbrev Nin_rows_of : List Str := ["box", "share", "high", "wide"]
theorem scin_rows_of : FnScope Nin_rows_of ["box", "share"] (defScope stin_rows_of) := ⟨rfl, rfl, rfl, by decide +kernel, rfl, by decide +kernel, by decide +kernel⟩
abbrev strows_with_room : Stmt := topS 33
abbrev Nrows_with_room : List Str := ["high", "wide", "share", "above", "lengths", "row", "limit", "length"]
theorem scrows_with_room : FnScope Nrows_with_room ["high", "wide", "share"] (defScope strows_with_room) := ⟨rfl, rfl, rfl, by decide +kernel, rfl, by decide +kernel, by decide +kernel⟩
abbrev st_law_pen : Stmt := topS 35
abbrev N_law_pen : List Str := ["_law_script"]
theorem sc_law_pen : FnScope N_law_pen ["_law_script"] (defScope st_law_pen) := ⟨rfl, rfl, rfl, by decide +kernel, rfl, by decide +kernel, by decide +kernel⟩
abbrev st_law_take : Stmt := topS 36
abbrev N_law_take : List Str := ["_law_pen_here", "_law_many", "_law_digit", "_law_at", "_law_cell", "_law_number"]
theorem sc_law_take : FnScope N_law_take ["_law_pen_here", "_law_many"] (defScope st_law_take) := ⟨rfl, rfl, rfl, by decide +kernel, rfl, by decide +kernel, by decide +kernel⟩
abbrev st_law_share : Stmt := topS 37
abbrev N_law_share : List Str := ["_law_pen_here", "_law_most", "_law_many", "_law_way", "_law_long", "_law_rows", "_law_k", "_law_less"]
theorem sc_law_share : FnScope N_law_share ["_law_pen_here", "_law_most"] (defScope st_law_share) := ⟨rfl, rfl, rfl, by decide +kernel, rfl, by decide +kernel, by decide +kernel⟩
abbrev st_law_is : Stmt := topS 38
abbrev N_law_is : List Str := ["_law_rows", "_law_high", "_law_wide", "_law_row", "_law_k"]
theorem sc_law_is : FnScope N_law_is ["_law_rows", "_law_high", "_law_wide"] (defScope st_law_is) := ⟨rfl, rfl, rfl, by decide +kernel, rfl, by decide +kernel, by decide +kernel⟩
abbrev st_law_comes : Stmt := topS 39
abbrev N_law_comes : List Str := ["_law_share_here", "_law_row", "_law_rows"]
theorem sc_law_comes : FnScope N_law_comes ["_law_share_here", "_law_row"] (defScope st_law_comes) := ⟨rfl, rfl, rfl, by decide +kernel, rfl, by decide +kernel, by decide +kernel⟩
abbrev st_law_goes : Stmt := topS 40
abbrev N_law_goes : List Str := ["_law_share_here", "_law_row", "_law_rows"]
theorem sc_law_goes : FnScope N_law_goes ["_law_share_here", "_law_row"] (defScope st_law_goes) := ⟨rfl, rfl, rfl, by decide +kernel, rfl, by decide +kernel, by decide +kernel⟩
abbrev st_law_told : Stmt := topS 41
abbrev N_law_told : List Str := ["_law_box", "_law_share_here", "_law_caught", "_law_found", "e"]
theorem sc_law_told : FnScope N_law_told ["_law_box", "_law_share_here"] (defScope st_law_told) := ⟨rfl, rfl, rfl, by decide +kernel, rfl, by decide +kernel, by decide +kernel⟩
abbrev st_law_boxes : Stmt := topS 42
abbrev N_law_boxes : List Str := ["_law_pen_here", "_law_share_here", "_law_high", "_law_wide", "_law_some"]
theorem sc_law_boxes : FnScope N_law_boxes ["_law_pen_here", "_law_share_here"] (defScope st_law_boxes) := ⟨rfl, rfl, rfl, by decide +kernel, rfl, by decide +kernel, by decide +kernel⟩
abbrev st_law_no_box : Stmt := topS 43
abbrev N_law_no_box : List Str := ["_law_pen_here", "_law_side", "_law_some"]
theorem sc_law_no_box : FnScope N_law_no_box ["_law_pen_here"] (defScope st_law_no_box) := ⟨rfl, rfl, rfl, by decide +kernel, rfl, by decide +kernel, by decide +kernel⟩
abbrev st_law_plain_right : Stmt := topS 44
abbrev N_law_plain_right : List Str := ["_law_share_here", "_law_come", "_law_go", "_law_turn", "_law_found", "_law_row"]
theorem sc_law_plain_right : FnScope N_law_plain_right ["_law_share_here"] (defScope st_law_plain_right) := ⟨rfl, rfl, rfl, by decide +kernel, rfl, by decide +kernel, by decide +kernel⟩
abbrev stlaw : Stmt := topS 45
abbrev Nlaw : List Str := ["_law_script", "_law_pen_here", "_law_turn", "_law_share_here", "_law_high", "_law_wide", "_law_due", "_law_again", "_law_found", "_law_row"]
theorem sclaw : FnScope Nlaw ["_law_script"] (defScope stlaw) := ⟨rfl, rfl, rfl, by decide +kernel, rfl, by decide +kernel, by decide +kernel⟩
structure Txt (K : PySem.W.Frag) (mg : Str → Option Value) (f : Nat → Addr) (fd : Nat → FuncData) : Prop where
  F19 : Fun K "is_whole" "is_whole" stis_whole (f 19) (fd 19)
  g19 : mg "is_whole" = some (.ref (f 19))
  b19 : Binds K (fd 19) ["thing"] []
  F20 : Fun K "is_whole_from" "is_whole_from" stis_whole_from (f 20) (fd 20)
  g20 : mg "is_whole_from" = some (.ref (f 20))
  b20 : Binds K (fd 20) ["least", "most", "thing"] []
  F25 : Fun K "is_box" "is_box" stis_box (f 25) (fd 25)
  g25 : mg "is_box" = some (.ref (f 25))
  b25 : Binds K (fd 25) ["thing"] []
  F26 : Fun K "need_box" "need_box" stneed_box (f 26) (fd 26)
  g26 : mg "need_box" = some (.ref (f 26))
  b26 : Binds K (fd 26) ["thing"] []
  F27 : Fun K "fits_in" "fits_in" stfits_in (f 27) (fd 27)
  g27 : mg "fits_in" = some (.ref (f 27))
  b27 : Binds K (fd 27) ["box", "share"] []
  F28 : Fun K "need_fit" "need_fit" stneed_fit (f 28) (fd 28)
  g28 : mg "need_fit" = some (.ref (f 28))
  b28 : Binds K (fd 28) ["box", "share"] []
  F30 : Fun K "in_rows" "in_rows" stin_rows (f 30) (fd 30)
  g30 : mg "in_rows" = some (.ref (f 30))
  b30 : Binds K (fd 30) ["share"] []
  F31 : Fun K "out_rows" "out_rows" stout_rows (f 31) (fd 31)
  g31 : mg "out_rows" = some (.ref (f 31))
  b31 : Binds K (fd 31) ["share"] []
  F32 : Fun K "in_rows_of" "in_rows_of" stin_rows_of (f 32) (fd 32)
  g32 : mg "in_rows_of" = some (.ref (f 32))
  b32 : Binds K (fd 32) ["box", "share"] []
  F33 : Fun K "rows_with_room" "rows_with_room" strows_with_room (f 33) (fd 33)
  g33 : mg "rows_with_room" = some (.ref (f 33))
  b33 : Binds K (fd 33) ["high", "wide", "share"] []
  F35 : Fun K "_law_pen" "_law_pen" st_law_pen (f 35) (fd 35)
  g35 : mg "_law_pen" = some (.ref (f 35))
  b35 : Binds K (fd 35) ["_law_script"] []
  F36 : Fun K "_law_take" "_law_take" st_law_take (f 36) (fd 36)
  g36 : mg "_law_take" = some (.ref (f 36))
  b36 : Binds K (fd 36) ["_law_pen_here", "_law_many"] []
  F37 : Fun K "_law_share" "_law_share" st_law_share (f 37) (fd 37)
  g37 : mg "_law_share" = some (.ref (f 37))
  b37 : Binds K (fd 37) ["_law_pen_here", "_law_most"] []
  F38 : Fun K "_law_is" "_law_is" st_law_is (f 38) (fd 38)
  g38 : mg "_law_is" = some (.ref (f 38))
  b38 : Binds K (fd 38) ["_law_rows", "_law_high", "_law_wide"] []
  F39 : Fun K "_law_comes" "_law_comes" st_law_comes (f 39) (fd 39)
  g39 : mg "_law_comes" = some (.ref (f 39))
  b39 : Binds K (fd 39) ["_law_share_here", "_law_row"] []
  F40 : Fun K "_law_goes" "_law_goes" st_law_goes (f 40) (fd 40)
  g40 : mg "_law_goes" = some (.ref (f 40))
  b40 : Binds K (fd 40) ["_law_share_here", "_law_row"] []
  F41 : Fun K "_law_told" "_law_told" st_law_told (f 41) (fd 41)
  g41 : mg "_law_told" = some (.ref (f 41))
  b41 : Binds K (fd 41) ["_law_box", "_law_share_here"] []
  F42 : Fun K "_law_boxes" "_law_boxes" st_law_boxes (f 42) (fd 42)
  g42 : mg "_law_boxes" = some (.ref (f 42))
  b42 : Binds K (fd 42) ["_law_pen_here", "_law_share_here"] []
  F43 : Fun K "_law_no_box" "_law_no_box" st_law_no_box (f 43) (fd 43)
  g43 : mg "_law_no_box" = some (.ref (f 43))
  b43 : Binds K (fd 43) ["_law_pen_here"] []
  F44 : Fun K "_law_plain_right" "_law_plain_right" st_law_plain_right (f 44) (fd 44)
  g44 : mg "_law_plain_right" = some (.ref (f 44))
  b44 : Binds K (fd 44) ["_law_share_here"] []
  g1 : mg "GridError" = some (.ref (f 1))
  g2 : mg "NoShare" = some (.ref (f 2))
  g3 : mg "NoBox" = some (.ref (f 3))
  g4 : mg "NoFit" = some (.ref (f 4))
  g5 : mg "NoNumber" = some (.ref (f 5))
  g6 : mg "NoRow" = some (.ref (f 6))
  g7 : mg "NoCell" = some (.ref (f 7))
  g8 : mg "NoChain" = some (.ref (f 8))
  g9 : mg "NoSquare" = some (.ref (f 9))
  g10 : mg "NoFilling" = some (.ref (f 10))
  g11 : mg "NoWalk" = some (.ref (f 11))
  g12 : mg "NoStack" = some (.ref (f 12))
  g13 : mg "NoPile" = some (.ref (f 13))
  g14 : mg "NoWay" = some (.ref (f 14))
  g15 : mg "NoBack" = some (.ref (f 15))
  g16 : mg "NoText" = some (.ref (f 16))
  g17 : mg "NoWord" = some (.ref (f 17))
  x3 : PySem.W.excIn K (f 3) [.type "ValueError", .type "Exception", .type "BaseException", .type "object"] "ValueError.__new__" = true
  k3 : PySem.W.keepIn K (.ref (f 3)) = true
  t3 : PySem.W.typeIn K (.ref (f 3)) = some (.type "type")
  e3 : ExcC K (f 3)
  v3 : PySem.W.kitOne K (.ref (f 3)) (.type "ValueError") = some true
  m3 : PySem.W.exmOne K (.ref (f 3)) (.ref (f 1)) = some true
  q3_1 : PySem.W.kitOne K (.ref (f 3)) (.ref (f 1)) = some true
  q3_2 : PySem.W.kitOne K (.ref (f 3)) (.ref (f 2)) = some false
  q3_3 : PySem.W.kitOne K (.ref (f 3)) (.ref (f 3)) = some true
  q3_4 : PySem.W.kitOne K (.ref (f 3)) (.ref (f 4)) = some false
  q3_5 : PySem.W.kitOne K (.ref (f 3)) (.ref (f 5)) = some false
  q3_6 : PySem.W.kitOne K (.ref (f 3)) (.ref (f 6)) = some false
  q3_7 : PySem.W.kitOne K (.ref (f 3)) (.ref (f 7)) = some false
  q3_8 : PySem.W.kitOne K (.ref (f 3)) (.ref (f 8)) = some false
  q3_9 : PySem.W.kitOne K (.ref (f 3)) (.ref (f 9)) = some false
  q3_10 : PySem.W.kitOne K (.ref (f 3)) (.ref (f 10)) = some false
  q3_11 : PySem.W.kitOne K (.ref (f 3)) (.ref (f 11)) = some false
  q3_12 : PySem.W.kitOne K (.ref (f 3)) (.ref (f 12)) = some false
  q3_13 : PySem.W.kitOne K (.ref (f 3)) (.ref (f 13)) = some false
  q3_14 : PySem.W.kitOne K (.ref (f 3)) (.ref (f 14)) = some false
  q3_15 : PySem.W.kitOne K (.ref (f 3)) (.ref (f 15)) = some false
  q3_16 : PySem.W.kitOne K (.ref (f 3)) (.ref (f 16)) = some false
  q3_17 : PySem.W.kitOne K (.ref (f 3)) (.ref (f 17)) = some false
  x4 : PySem.W.excIn K (f 4) [.type "ValueError", .type "Exception", .type "BaseException", .type "object"] "ValueError.__new__" = true
  k4 : PySem.W.keepIn K (.ref (f 4)) = true
  t4 : PySem.W.typeIn K (.ref (f 4)) = some (.type "type")
  e4 : ExcC K (f 4)
  v4 : PySem.W.kitOne K (.ref (f 4)) (.type "ValueError") = some true
  m4 : PySem.W.exmOne K (.ref (f 4)) (.ref (f 1)) = some true
  q4_1 : PySem.W.kitOne K (.ref (f 4)) (.ref (f 1)) = some true
  q4_2 : PySem.W.kitOne K (.ref (f 4)) (.ref (f 2)) = some false
  q4_3 : PySem.W.kitOne K (.ref (f 4)) (.ref (f 3)) = some false
  q4_4 : PySem.W.kitOne K (.ref (f 4)) (.ref (f 4)) = some true
  q4_5 : PySem.W.kitOne K (.ref (f 4)) (.ref (f 5)) = some false
  q4_6 : PySem.W.kitOne K (.ref (f 4)) (.ref (f 6)) = some false
  q4_7 : PySem.W.kitOne K (.ref (f 4)) (.ref (f 7)) = some false
  q4_8 : PySem.W.kitOne K (.ref (f 4)) (.ref (f 8)) = some false
  q4_9 : PySem.W.kitOne K (.ref (f 4)) (.ref (f 9)) = some false
  q4_10 : PySem.W.kitOne K (.ref (f 4)) (.ref (f 10)) = some false
  q4_11 : PySem.W.kitOne K (.ref (f 4)) (.ref (f 11)) = some false
  q4_12 : PySem.W.kitOne K (.ref (f 4)) (.ref (f 12)) = some false
  q4_13 : PySem.W.kitOne K (.ref (f 4)) (.ref (f 13)) = some false
  q4_14 : PySem.W.kitOne K (.ref (f 4)) (.ref (f 14)) = some false
  q4_15 : PySem.W.kitOne K (.ref (f 4)) (.ref (f 15)) = some false
  q4_16 : PySem.W.kitOne K (.ref (f 4)) (.ref (f 16)) = some false
  q4_17 : PySem.W.kitOne K (.ref (f 4)) (.ref (f 17)) = some false
  c_MOST_ROWS : ∃ t, mg "MOST_ROWS" = some (.int 20 t)
  c_LONGEST_ROW : ∃ t, mg "LONGEST_ROW" = some (.int 20 t)
  c_LONGEST_SIDE : ∃ t, mg "LONGEST_SIDE" = some (.int 20 t)
  m_ValueError : mg "ValueError" = none
  m_abs : mg "abs" = none
  m_all : mg "all" = none
  m_bool : mg "bool" = none
  m_enumerate : mg "enumerate" = none
  m_int : mg "int" = none
  m_isinstance : mg "isinstance" = none
  m_len : mg "len" = none
  m_list : mg "list" = none
  m_max : mg "max" = none
  m_min : mg "min" = none
  m_range : mg "range" = none
  m_repr : mg "repr" = none
  m_tuple : mg "tuple" = none
  m_zip : mg "zip" = none
section
variable {P : Program} {w : World} {K : PySem.W.Frag} {mg : Str → Option Value} {base : Heap} {f : Nat → Addr} {fd : Nat → FuncData}
structure Pen (H : Hp) (p l : Addr) (ns : List Int) : Prop where
  ne : p ≠ l
  lst : H l = some (.lst (ns.map V.int))
  pen : ∃ a b, H p = some (.lst [.ref l, .int a, .int b])
/-! ### _law_pen -/
def sp_law_pen (K : PySem.W.Frag) : Sp := fun vs H Q _ => ∃ (a : Addr) (ns : List Int), vs = [.ref a] ∧ SqL K H a (ns.map V.int) ∧
  ∀ H' p l ms, Same H H' → Pen H' p l ms → Q (.ref p) H'
theorem ok_law_pen (T : Txt K mg f fd) : FnOk P w K mg base CX0 1 (f 35) (fd 35) ["_law_script"] (sp_law_pen K) := by
  refine T.F35.ok sc_law_pen (fun vs H Q E h => ?_) (fun cdv A outer s H vs Q E hr h => ?_)
  · obtain ⟨a, ns, rfl, _⟩ := h
    rfl
  · obtain ⟨a, ns, rfl, hA, q⟩ := h
    refine ⟨_, (pss_one (ps_ret (pe_lst (pa_cons (pe_callTy (r := rLstO K) lst_of (by rfl) T.m_list bt_list (pa_cons (pe_slice (r := rSlL K) sl_list (pv 0) po_none (po_some pe_int)) pa_nil)) (pa_cons pe_int (pa_cons pe_int pa_nil)))))), ?_⟩
    refine ⟨.ref a, rfl, 63, rfl, a, _, rfl, hA, fun c nc => ?_⟩
    refine ⟨c, _, rfl, .inl (SqL.of upd_same), fun l nl => ⟨small_line (by show 3 ≤ 100000; omega), fun p np => ?_⟩⟩
    obtain ⟨ms, hm⟩ : ∃ ms : List Int, cutV (ns.map V.int) none (some 63) = ms.map V.int := by
      unfold cutV
      rw [← List.map_drop, ← List.map_take]
      exact ⟨_, rfl⟩
    rw [hm] at nl np ⊢
    have hpl : l ≠ p := fun z => by
      rw [z, upd_same] at np
      cases np
    refine q _ p l ms (((same_new nc).trans (same_new nl)).trans (same_new np)) ⟨fun z => hpl z.symm, ?_, 0, 0, upd_same⟩
    rw [upd_ne hpl, upd_same]
/-! ### _law_take -/
def sp_law_take : Sp := fun vs H Q _ => ∃ (p l : Addr) (ns : List Int) (m : Int), vs = [.ref p, .int m] ∧ Pen H p l ns ∧ 1 ≤ m ∧ m ≤ 1000 ∧
  ∀ H' d, Kp p H H' → Pen H' p l ns → 0 ≤ d → d < m → Q (.int d) H'
theorem pen_put {H : Hp} {p l : Addr} {ns : List Int} {a b : Int} (h : Pen H p l ns) : Pen (upd H p (.lst [.ref l, .int a, .int b])) p l ns :=
  ⟨h.ne, by rw [upd_ne h.ne.symm]; exact h.lst, a, b, upd_same⟩
theorem ok_law_take (T : Txt K mg f fd) : FnOk P w K mg base CX0 1 (f 36) (fd 36) ["_law_pen_here", "_law_many"] sp_law_take := by
  refine T.F36.ok sc_law_take (fun vs H Q E h => ?_) (fun cdv A outer s H vs Q E hr h => ?_)
  · obtain ⟨p, l, ns, m, rfl, _⟩ := h
    rfl
  · obtain ⟨p, l, ns, m, rfl, hP, hm, hm2, q⟩ := h
    have hcd : ∀ i : Int, CDiv i m := fun i => ⟨by omega, by omega⟩
    have fin : ∀ {H' : Hp} (i : Int), Kp p H H' → Pen H' p l ns → Q (.int (i % m)) H' := fun i k1 k2 => q _ _ k1 k2 (Int.emod_nonneg _ (by omega)) (Int.emod_lt_of_pos _ (by omega))
    obtain ⟨hne, hl, a, b, hp⟩ := hP
    have hS : SqL K H p [.ref l, .int a, .int b] := SqL.of hp
    refine ⟨_, (pss_cons (ps_if (pt_cmpR op_gt (pe_ix (r := rIxL K) ix_list (pv 0) pe_int (fun _ _ => rfl)) pe_int (nomark _)) (pss_cons (ps_set (i := 2) sc_law_take.nd rfl (Or.inl rfl) (pe_op op_mod (pe_ix (r := rIxL K) ix_list (pv 0) pe_int (fun _ _ => rfl)) (pv 1)))
      (pss_cons (ps_asg (pe_op op_fdiv (pe_ix (r := rIxL K) ix_list (pv 0) pe_int (fun _ _ => rfl)) (pv 1)) (pg_sub (pv 0) pe_int set_list))
      (pss_one (ps_ret (pv 2))))) pss_nil)
      (pss_cons (ps_set (i := 3) sc_law_take.nd rfl (Or.inl rfl) (pe_ix (r := rIxL K) ix_list (pv 0) pe_int (fun _ _ => rfl)))
      (Evl.pss_cut (ps_asg (pe_op op_add (pv 3) pe_int) (pg_sub (pv 0) pe_int set_list))
      (pss_cons (ps_set (i := 4) sc_law_take.nd rfl (Or.inl rfl) (pe_op op_add (pe_op op_mul pe_int (pv 3)) pe_int))
      (Evl.pss_cut (ps_if (pt_cmpR (op_neD hr.units) (pe_ix (r := rIxL K) ix_list (pv 0) pe_int (fun _ _ => rfl)) (pe_lst pa_nil) (nomark _)) (pss_one (ps_set (i := 4) sc_law_take.nd rfl (Or.inl rfl) (pe_ix (r := rIxL K) ix_list (pe_ix (r := rIxL K) ix_list (pv 0) pe_int (fun _ _ => rfl)) (pe_op op_mod (pv 3) (pe_callB (r := rLenS K) len_seq (by rfl) T.m_len bt_len (pa_cons (pe_ix (r := rIxL K) ix_list (pv 0) pe_int (fun _ _ => rfl)) pa_nil))) (fun _ _ => rfl)))) pss_nil)
      (Evl.pss_cut (ps_if (PW.pt (pw_and (pt_cmpR op_lt (pv 3) (pe_callB (r := rLenS K) len_seq (by rfl) T.m_len bt_len (pa_cons (pe_ix (r := rIxL K) ix_list (pv 0) pe_int (fun _ _ => rfl)) pa_nil)) (nomark _)) (pw_and1 (pt_cmpR op_ge (pe_callB call_abs (by rfl) T.m_abs bt_abs (pa_cons (pv 4) pa_nil)) (pe_op op_pow pe_int pe_int) (nomark _))))) (pss_cons (ps_asg (pe_op op_fdiv (pe_callB call_abs (by rfl) T.m_abs bt_abs (pa_cons (pv 4) pa_nil)) (pv 1)) (pg_sub (pv 0) pe_int set_list))
      (pss_one (ps_ret (pe_op op_mod (pe_callB call_abs (by rfl) T.m_abs bt_abs (pa_cons (pv 4) pa_nil)) (pv 1))))) pss_nil)
      (Evl.pss_cut (ps_set (i := 5) sc_law_take.nd rfl (Or.inl rfl) (pe_op op_mod (pe_op op_mul (pe_op op_add (pe_op op_add (pe_op op_mod (pv 4) pe_int) (pe_op op_mul pe_int (pv 3))) pe_int) pe_int) pe_int))
      (Evl.pss_cut (ps_set (i := 5) sc_law_take.nd rfl (Or.inl rfl) (pe_op op_mod (pe_op op_add (pe_op op_add (pe_op op_mul (pv 5) (pv 5)) (pe_op op_mul pe_int (pv 5))) (pv 3)) pe_int))
      (pss_one (ps_ret (pe_op op_mod (pe_op op_fdiv (pv 5) pe_int) (pv 1)))))))))))), ?_⟩
    refine ⟨.ref p, rfl, p, _, 2, _, rfl, rfl, hS, rfl, _, _, rfl, rfl, _, rfl, ite2 (fun e => ?_) (fun e => ?_)⟩
    · refine ⟨.ref p, rfl, p, _, 2, _, rfl, rfl, hS, rfl, _, rfl, b, m, rfl, rfl, (by show (0 : Int) < m; omega), ?_⟩
      refine ⟨.ref p, rfl, p, _, 2, _, rfl, rfl, hS, rfl, _, rfl, b, m, rfl, rfl, hcd _, ?_⟩
      refine ⟨.ref p, rfl, p, _, 2, 2, rfl, rfl, hp, rfl, _, rfl, fin b kp_upd ?_⟩
      exact pen_put ⟨hne, hl, a, b, hp⟩
    · refine ⟨.ref p, rfl, p, _, 1, _, rfl, rfl, hS, rfl, ?_⟩
      refine ⟨fun σ H1 => σ = [some (.ref p), some (.int m), none, some (.int a), none, none] ∧ Kp p H H1 ∧ Pen H1 p l ns, ?_, ?_⟩
      · exact ⟨_, rfl, a, 1, rfl, rfl, .ref p, rfl, p, _, 1, 1, rfl, rfl, hp, rfl, rfl, kp_upd, pen_put ⟨hne, hl, a, b, hp⟩⟩
      rintro _ H1 ⟨rfl, k1, hP1⟩
      obtain ⟨_, hl1, a1, b1, hp1⟩ := hP1
      have hS1 : SqL K H1 p [.ref l, .int a1, .int b1] := SqL.of hp1
      -- cell = 5003 * at + 17
      refine ⟨_, rfl, _, _, rfl, rfl, .inl ⟨by decide, by decide⟩, _, _, rfl, rfl, ?_⟩
      -- if pen[0] != []
      refine ⟨fun σ H2 => ∃ c, σ = [some (.ref p), some (.int m), none, some (.int a), some (.int c), none] ∧ Kp p H H2 ∧ Pen H2 p l ns, ?_, ?_⟩
      · refine ⟨.ref p, rfl, p, _, 0, _, rfl, rfl, hS1, rfl, small_line (by show 0 ≤ 100000; omega), fun z nz => ?_⟩
        have zl : Dp K (upd H1 z (.lst [])) (.ref l) (.list (ns.map PyData.int)) := dp_lst (SqL.of (same_new nz _ _ hl1))
        have z0 : Dp K (upd H1 z (.lst [])) (.ref z) (.list (([] : List Int).map PyData.int)) := dp_lst (SqL.of upd_same)
        have k2 : Kp p H (upd H1 z (.lst [])) := k1.trans (kp_new nz)
        have hp2 : (upd H1 z (.lst [])) p = some (.lst [.ref l, .int a1, .int b1]) := same_new nz _ _ hp1
        have hl2 : (upd H1 z (.lst [])) l = some (.lst (ns.map V.int)) := same_new nz _ _ hl1
        refine ⟨_, _, zl, z0, shaped_lst ns, shaped_lst [], _, rfl, ite2 (fun e => ?_) (fun e => ?_)⟩
        · have n0 : 0 < ns.length := by
            cases ns with
            | nil => exact absurd e (by simp [PyData.eqv, PyData.eqvAll])
            | cons _ _ => exact Nat.succ_pos _
          have b0 : 0 ≤ a % (ns.length : Int) := Int.emod_nonneg _ (by omega)
          have b1' : a % (ns.length : Int) < ns.length := Int.emod_lt_of_pos _ (by omega)
          have hx : (a % (ns.length : Int)).toNat < ns.length := by omega
          refine ⟨.ref p, rfl, p, _, 0, _, rfl, rfl, SqL.of hp2, rfl, _, rfl, .ref p, rfl, p, _, 0, _, rfl, rfl, SqL.of hp2, rfl, l, _, rfl, .inl (SqL.of hl2), _, _, rfl, rfl, ?_, ?_⟩
          · show (0 : Int) < _
            rw [List.length_map]
            omega
          · refine ⟨l, ns.map V.int, _, .int ns[(a % (ns.length : Int)).toNat], rfl, rfl, SqL.of hl2, ?_, _, rfl, k2, hne, hl2, _, _, hp2⟩
            rw [List.length_map]
            exact at_get b0 (by rw [List.getElem?_map, List.getElem?_eq_getElem hx]; rfl)
        · exact ⟨_, rfl, k2, hne, hl2, _, _, hp2⟩
      rintro _ H2 ⟨c, rfl, k2, hP2⟩
      obtain ⟨_, hl2, a2, b2, hp2⟩ := hP2
      have hS2 : SqL K H2 p [.ref l, .int a2, .int b2] := SqL.of hp2
      have tl : ∀ k, k = true → Q (.int ((if c < 0 then -c else c) % m)) (upd H2 p (.lst [.ref l, .int a2, .int ((if c < 0 then -c else c) / m)])) := fun _ _ => fin _ (k2.trans kp_upd) (pen_put ⟨hne, hl2, a2, b2, hp2⟩)
      refine ⟨fun σ H3 => σ = [some (.ref p), some (.int m), none, some (.int a), some (.int c), none] ∧ H2 = H3, ?_, ?_⟩
      · refine ⟨_, rfl, .ref p, rfl, p, _, 0, _, rfl, rfl, hS2, rfl, l, _, rfl, .inl (SqL.of hl2), _, _, rfl, rfl, _, rfl, ite2 (fun e => ?_) (fun e => iteF ⟨rfl, rfl⟩)⟩
        refine ⟨_, rfl, _, rfl, _, _, rfl, rfl, ⟨by decide, by decide, by decide⟩, _, _, rfl, rfl, _, rfl, ite2 (fun e => ?_) (fun e => ⟨rfl, rfl⟩)⟩
        refine ⟨_, rfl, _, rfl, _, rfl, _, _, rfl, rfl, hcd _, ?_⟩
        refine ⟨.ref p, rfl, p, _, 2, 2, rfl, rfl, hp2, rfl, ?_⟩
        exact ⟨_, rfl, _, rfl, _, rfl, _, _, rfl, rfl, (by show (0 : Int) < m; omega), tl true rfl⟩
      rintro _ _ ⟨rfl, rfl⟩
      refine ⟨fun σ H3 => (∃ n, 0 ≤ n ∧ n < 2147483647 ∧ σ = [some (.ref p), some (.int m), none, some (.int a), some (.int c), some (.int n)]) ∧ H2 = H3, ?_, ?_⟩
      · refine ⟨_, rfl, _, _, rfl, rfl, (show (0 : Int) < 2147483629 by decide), _, rfl, _, _, rfl, rfl, .inl ⟨by decide, by decide⟩, _, _, rfl, rfl, _, _, rfl, rfl, _, _, rfl, rfl, .inr ⟨by decide, by decide⟩, _, _, rfl, rfl, (show (0 : Int) < 2147483647 by decide), ⟨_, ?_, ?_, rfl⟩, rfl⟩
        · exact Int.emod_nonneg _ (by decide)
        · exact Int.emod_lt_of_pos _ (by decide)
      rintro _ _ ⟨⟨n, n1, n2, rfl⟩, rfl⟩
      refine ⟨fun σ H3 => (∃ n, 0 ≤ n ∧ σ = [some (.ref p), some (.int m), none, some (.int a), some (.int c), some (.int n)]) ∧ H2 = H3, ?_, ?_⟩
      · refine ⟨_, rfl, _, rfl, n, n, rfl, rfl, .inl ⟨by omega, by omega⟩, _, rfl, _, n, rfl, rfl, .inl ⟨by decide, by decide⟩, _, _, rfl, rfl, _, rfl, _, _, rfl, rfl, _, _, rfl, rfl, (show (0 : Int) < 2147483587 by decide), ⟨_, ?_, rfl⟩, rfl⟩
        exact Int.emod_nonneg _ (by decide)
      rintro _ _ ⟨⟨n, n1, rfl⟩, rfl⟩
      exact ⟨_, rfl, _, _, rfl, rfl, ⟨by decide, by decide⟩, _, rfl, _, _, rfl, rfl, (by show (0 : Int) < m; omega), fin _ k2 ⟨hne, hl2, a2, b2, hp2⟩⟩
theorem Pen.same {H H' : Hp} {p l : Addr} {ns : List Int} (h : Pen H p l ns) (s : Same H H') : Pen H' p l ns :=
  ⟨h.ne, s _ _ h.lst, let ⟨u, v, e⟩ := h.pen; ⟨u, v, s _ _ e⟩⟩
theorem Pen.apart {H : Hp} {p l a : Addr} {ns : List Int} {xs : List V} (h : Pen H p l ns) (ha : H a = some (.tup xs)) : a ≠ p := by
  obtain ⟨u, v, e⟩ := h.pen
  exact ne_of ha e (by intro z; cases z)
/-! ### _law_share -/
def sp_law_share : Sp := fun vs H Q _ => ∃ (p l : Addr) (ns : List Int) (m : Int), vs = [.ref p, .int m] ∧ Pen H p l ns ∧ 1 ≤ m ∧ m ≤ 20 ∧
  ∀ H' a xs, Kp p H H' → Pen H' p l ns → H' a = some (.tup (xs.map V.int)) → Sh xs → (xs.length : Int) ≤ m → (∀ x ∈ xs, x ≤ m) → Q (.ref a) H'
theorem ok_law_share (T : Txt K mg f fd) : FnOk P w K mg base CX0 2 (f 37) (fd 37) ["_law_pen_here", "_law_most"] sp_law_share := by
  refine T.F37.ok sc_law_share (fun vs H Q E h => ?_) (fun cdv A outer s H vs Q E hr h => ?_)
  · obtain ⟨p, l, ns, m, rfl, _⟩ := h
    rfl
  · obtain ⟨p, l, ns, m, rfl, hP, hm, hm2, q⟩ := h
    refine ⟨_, (pss_cons (ps_set (i := 2) sc_law_share.nd rfl (Or.inl rfl) (pe_call (ok_law_take T) (hr.mono (by decide)) (by rfl) T.g36 T.F36.kp T.b36 .nil pass0 (pa_cons (pv 0) (pa_cons (pe_op op_add (pv 1) pe_int) pa_nil))))
      (pss_cons (ps_set (i := 3) sc_law_share.nd rfl (Or.inl rfl) (pe_call (ok_law_take T) (hr.mono (by decide)) (by rfl) T.g36 T.F36.kp T.b36 .nil pass0 (pa_cons (pv 0) (pa_cons pe_int pa_nil))))
      (pss_cons (ps_set (i := 4) sc_law_share.nd rfl (Or.inl rfl) (pe_op op_add pe_int (pe_call (ok_law_take T) (hr.mono (by decide)) (by rfl) T.g36 T.F36.kp T.b36 .nil pass0 (pa_cons (pv 0) (pa_cons (pv 1) pa_nil)))))
      (pss_cons (ps_set (i := 5) sc_law_share.nd rfl (Or.inl rfl) (pe_lst pa_nil))
      (pss_cons (ps_for PassesOwn.never rfl (pi_range1 (by rfl) T.m_range (pa_cons (pv 2) pa_nil)) (pg_name (i := 6) sc_law_share.nd rfl (Or.inl rfl)) (pss_cons (ps_expr (pe_bm PySem.F.plainAttrs_list PySem.F.slot_list_append PySem.F.type_list_append mt_append (pv 5) (pa_cons (pv 4) pa_nil)))
      (pss_cons (ps_set (i := 7) sc_law_share.nd rfl (Or.inl rfl) (pe_call (ok_law_take T) (hr.mono (by decide)) (by rfl) T.g36 T.F36.kp T.b36 .nil pass0 (pa_cons (pv 0) (pa_cons pe_int pa_nil))))
      (pss_one (ps_set (i := 4) sc_law_share.nd rfl (Or.inl rfl) (pe_ix (r := rIxL K) ix_list (pe_lst (pa_cons (pe_callB (call_max2 rfl) (by rfl) T.m_max bt_max (pa_cons pe_int (pa_cons (pe_op op_sub (pv 4) (pv 7)) pa_nil))) (pa_cons (pv 4) (pa_cons (pe_op op_add pe_int (pe_call (ok_law_take T) (hr.mono (by decide)) (by rfl) T.g36 T.F36.kp T.b36 .nil pass0 (pa_cons (pv 0) (pa_cons (pv 4) pa_nil)))) (pa_cons (pe_callB (call_max2 rfl) (by rfl) T.m_max bt_max (pa_cons pe_int (pa_cons (pe_op op_sub (pv 4) pe_int) pa_nil))) pa_nil))))) (pv 3) (fun _ _ => rfl)))))))
      (pss_one (ps_ret (pe_callTy (r := rTupO K) tup_of (by rfl) T.m_tuple bt_tuple (pa_cons (pv 5) pa_nil))))))))), ?_⟩
    refine ⟨.ref p, rfl, _, rfl, _, _, rfl, rfl, p, l, ns, _, rfl, hP, by omega, by omega, fun H1 many k1 P1 a1 a2 => ?_⟩
    refine ⟨.ref p, rfl, p, l, ns, _, rfl, P1, by decide, by decide, fun H2 way k2 P2 a3 a4 => ?_⟩
    refine ⟨.ref p, rfl, _, rfl, p, l, ns, _, rfl, P2, by omega, by omega, fun H3 d k3 P3 a5 a6 => ?_⟩
    refine ⟨_, _, rfl, rfl, Nat.zero_le _, fun R nR => ?_⟩
    have k03 : Kp p H H3 := (k1.trans k2).trans k3
    refine ⟨.int many, rfl, many, rfl, by omega, by omega, ?_⟩
    have nR0 : ∀ b o, H b = some o → b ≠ p → b ≠ R := fun b o e n => ne_of_none (k03 b o n e) nR
    have hRp : R ≠ p := fun z => by
      obtain ⟨_, _, u, v, e⟩ := P3
      rw [← z, nR] at e
      cases e
    have hRl : R ≠ l := fun z => by
      have e := P3.lst
      rw [← z, nR] at e
      cases e
    refine for_range (fun i σ H4 => ∃ (xs : List Int) (long : Int) (o1 o2 : Option V), σ = [some (.ref p), some (.int m), some (.int many), some (.int way), some (.int long), some (.ref R), o1, o2] ∧ xs.length = i ∧ (∀ x ∈ xs, 1 ≤ x ∧ x ≤ m ∧ long ≤ x) ∧ xs.Pairwise (fun x y => y ≤ x) ∧ 1 ≤ long ∧ long ≤ m ∧
      Kp p H H4 ∧ Pen H4 p l ns ∧ H4 R = some (.lst (xs.map V.int))) ?_ ?_ ?_
    · refine ⟨[], 1 + d, none, none, rfl, rfl, (fun x z => absurd z List.not_mem_nil), List.Pairwise.nil, by omega, by omega, k03.trans (kp_new nR), ⟨P3.ne, same_new nR _ _ P3.lst, ?_⟩, upd_same⟩
      obtain ⟨u, v, e⟩ := P3.pen
      exact ⟨u, v, same_new nR _ _ e⟩
    · rintro i _ H4 hi ⟨xs, long, o1, o2, rfl, hx, hr1, hf, hl1, hl2, k4, P4, hR⟩
      -- rows.append(long)
      refine ⟨.ref R, rfl, .inl ⟨rfl, _, .inl (.inl hR)⟩, _, rfl, R, _, _, rfl, rfl, hR, small_lt (by rw [List.length_map]; omega), ?_⟩
      have k5 : Kp p H (upd H4 R (.lst (xs.map V.int ++ [.int long]))) := fun b o n e => by
        rw [upd_ne (nR0 b o e n)]
        exact k4 b o n e
      have P5 : Pen (upd H4 R (.lst (xs.map V.int ++ [.int long]))) p l ns := by
        obtain ⟨h1, h2, u, v, e⟩ := P4
        exact ⟨h1, by rw [upd_ne hRl.symm]; exact h2, u, v, by rw [upd_ne hRp.symm]; exact e⟩
      have hR5 : (upd H4 R (.lst (xs.map V.int ++ [.int long]))) R = some (.lst ((xs ++ [long]).map V.int)) := by
        rw [upd_same, List.map_append]
        rfl
      -- less = take(pen, 3)
      refine ⟨.ref p, rfl, p, l, ns, 3, rfl, P5, by decide, by decide, fun H6 less k6 P6 b1 b2 => ?_⟩
      have hR6 := k6 R _ hRp hR5
      -- long = [..][way]
      refine ⟨_, rfl, _, rfl, _, _, rfl, rfl, 1, long - less, rfl, _, rfl, .ref p, rfl, _, rfl, p, l, ns, long, rfl, P6, by omega, by omega, fun H7 d7 k7 P7 b3 b4 => ?_⟩
      have hR7 := k7 R _ hRp hR6
      refine ⟨1, d7, rfl, rfl, _, rfl, _, _, rfl, rfl, 1, long - 1, rfl, small_line (by show 4 ≤ 100000; omega), fun Z nZ => ?_⟩
      obtain ⟨v, hv, hv1, hv2⟩ : ∃ v, atI [V.int (if long - less > 1 then long - less else 1), V.int long, V.int (1 + d7), V.int (if long - 1 > 1 then long - 1 else 1)] way = some (V.int v) ∧ 1 ≤ v ∧ v ≤ long := by
        rcases (show way = 0 ∨ way = 1 ∨ way = 2 ∨ way = 3 by omega) with z | z | z | z <;> subst z
        · exact ⟨_, rfl, by split <;> omega, by split <;> omega⟩
        · exact ⟨_, rfl, by omega, by omega⟩
        · exact ⟨_, rfl, by omega, by omega⟩
        · exact ⟨_, rfl, by split <;> omega, by split <;> omega⟩
      refine ⟨_, rfl, Z, _, way, _, rfl, rfl, SqL.of upd_same, hv, ?_⟩
      refine ⟨xs ++ [long], v, _, _, rfl, by rw [List.length_append, hx]; rfl, ?_, ?_, hv1, by omega, ((k5.trans k6).trans k7).trans (kp_new nZ), ?_, same_new nZ _ _ hR7⟩
      · intro x z
        rcases List.mem_append.mp z with z | z
        · have := hr1 x z
          omega
        · have e : x = long := by simpa using z
          omega
      · rw [List.pairwise_append]
        refine ⟨hf, List.pairwise_singleton _ _, fun x z y z2 => ?_⟩
        have e : y = long := by simpa using z2
        have := hr1 x z
        omega
      · obtain ⟨h1, h2, u, v, e⟩ := P7
        exact ⟨h1, same_new nZ _ _ h2, u, v, same_new nZ _ _ e⟩
    · rintro _ H4 ⟨xs, long, o1, o2, rfl, hx, hr1, hf, hl1, hl2, k4, P4, hR⟩
      refine ⟨.ref R, rfl, R, _, rfl, .inl ⟨SqL.of hR, fun t nt => ?_⟩⟩
      refine q _ t xs (k4.trans (kp_new nt)) ?_ upd_same ⟨by omega, fun x z => by have := hr1 x z; omega, hf⟩ (by omega) fun x z => (hr1 x z).2.1
      obtain ⟨h1, h2, u, v, e⟩ := P4
      exact ⟨h1, same_new nt _ _ h2, u, v, same_new nt _ _ e⟩
/-! ### whole numbers, and what is none -/
/-- no whole number: of another kind, or a truth -/
def NotWh (K : PySem.W.Frag) (H : Hp) (v : V) : Prop := ∃ (t : Value) (b : Bool), TyX K H v t ∧ PySem.W.kitOne K t (.type "int") = some b ∧ (b = true → PySem.W.kitOne K t (.type "bool") = some true)
/-- what is no whole number, as it comes here -/
inductive Odd (H : Hp) : V → Prop
  | non : Odd H .non
  | bl (b : Bool) : Odd H (.bl b)
  | str (s : Str) : Odd H (.str s)
  | lst {a : Addr} {xs : List V} : H a = some (.lst xs) → Odd H (.ref a)
  | tup {a : Addr} {xs : List V} : H a = some (.tup xs) → Odd H (.ref a)
  | dK {a : Addr} {kvs : List (Key × V)} : H a = some (.dK kvs) → Odd H (.ref a)
theorem Odd.same {H H' : Hp} {v : V} (h : Odd H v) (s : Same H H') : Odd H' v := by
  cases h with
  | non => exact .non
  | bl b => exact .bl b
  | str x => exact .str x
  | lst e => exact .lst (s _ _ e)
  | tup e => exact .tup (s _ _ e)
  | dK e => exact .dK (s _ _ e)
def sp_is_whole (K : PySem.W.Frag) : Sp := fun vs H Q _ => ∃ v : V, vs = [v] ∧ ((∃ i : Int, v = .int i ∧ Q (.bl true) H) ∨ (NotWh K H v ∧ Q (.bl false) H))
theorem ok_is_whole (T : Txt K mg f fd) : FnOk P w K mg base CX0 1 (f 19) (fd 19) ["thing"] (sp_is_whole K) := by
  refine T.F19.ok scis_whole (fun vs H Q E h => ?_) (fun cdv A outer s H vs Q E hr h => ?_)
  · obtain ⟨v, rfl, _⟩ := h
    rfl
  · obtain ⟨v, rfl, h⟩ := h
    refine ⟨_, (pss_one (ps_ret (pe_and (pe_callB call_isi (by rfl) T.m_isinstance bt_isinstance (pa_cons (pv 0) (pa_cons (pe_bltn (v := .ty "int") (by rfl) T.m_int bt_int rfl) pa_nil))) (pe_one (pe_not (pe_callB call_isi (by rfl) T.m_isinstance bt_isinstance (pa_cons (pv 0) (pa_cons (pe_bltn (v := .ty "bool") (by rfl) T.m_bool bt_bool rfl) pa_nil)))))))), ?_⟩
    rcases h with ⟨i, rfl, q⟩ | ⟨⟨t, b, ty, k1, k2⟩, q⟩
    · refine ⟨_, rfl, _, .ty "int", .type "int", .type "int", true, rfl, .ty _, .base (.int _), kit_ty (by decide +kernel), _, rfl, ?_⟩
      rw [if_pos rfl]
      exact ⟨_, rfl, _, .ty "bool", .type "int", .type "bool", false, rfl, .ty _, .base (.int _), kit_ty (by decide +kernel), _, rfl, q⟩
    · refine ⟨_, rfl, _, .ty "int", t, .type "int", b, rfl, .ty _, ty, k1, _, rfl, ?_⟩
      cases b with
      | false =>
        rw [if_neg Bool.false_ne_true]
        exact q
      | true =>
        rw [if_pos rfl]
        exact ⟨_, rfl, _, .ty "bool", t, .type "bool", true, rfl, .ty _, ty, k2 rfl, _, rfl, q⟩
theorem nw_non {H : Hp} : NotWh K H .non := ⟨_, false, .base .non, kit_ty (by decide +kernel), nofun⟩
theorem nw_bl {H : Hp} (b : Bool) : NotWh K H (.bl b) := ⟨_, true, .base (.bl b), kit_ty (by decide +kernel), fun _ => kit_ty (by decide +kernel)⟩
theorem nw_str {H : Hp} (s : Str) : NotWh K H (.str s) := ⟨_, false, .base (.str s), kit_ty (by decide +kernel), nofun⟩
theorem nw_lst {H : Hp} {a : Addr} {xs : List V} (h : H a = some (.lst xs)) : NotWh K H (.ref a) := ⟨_, false, .base (.lst h), kit_ty (by decide +kernel), nofun⟩
theorem nw_tup {H : Hp} {a : Addr} {xs : List V} (h : H a = some (.tup xs)) : NotWh K H (.ref a) := ⟨_, false, .base (.tup h), kit_ty (by decide +kernel), nofun⟩
theorem nw_dK {H : Hp} {a : Addr} {kvs : List (Key × V)} (h : H a = some (.dK kvs)) : NotWh K H (.ref a) := ⟨_, false, .base (.dK h), kit_ty (by decide +kernel), nofun⟩
theorem Odd.nw {H : Hp} {v : V} (h : Odd H v) : NotWh K H v := by
  cases h with
  | non => exact nw_non
  | bl b => exact nw_bl b
  | str x => exact nw_str x
  | lst e => exact nw_lst e
  | tup e => exact nw_tup e
  | dK e => exact nw_dK e
/-! ### the rows at which a cell may come or go -/
def room (h w : Int) (xs : List Int) : List Int := ((List.range (xs.length + 1)).filter (pRoom h w xs)).map fun i : Nat => (i : Int)
def outL (xs : List Int) : List Int := ((List.range xs.length).filter (pOut xs)).map fun i : Nat => (i : Int)
theorem fr_step (p : Nat → Bool) (i : Nat) : ((List.range (i + 1)).filter p).map (fun i : Nat => (i : Int)) = ((List.range i).filter p).map (fun i : Nat => (i : Int)) ++ (if p i = true then [(i : Int)] else []) := by
  rw [List.range_succ, List.filter_append, List.map_append, List.filter_cons, List.filter_nil]
  split <;> rfl
theorem fr_len (p : Nat → Bool) (i : Nat) : (((List.range i).filter p).map fun i : Nat => (i : Int)).length ≤ i := by
  rw [List.length_map]
  have := List.length_filter_le p (List.range i)
  rw [List.length_range] at this
  exact this
def sp_rows_with_room : Sp := fun vs H Q _ => ∃ (a : Addr) (xs : List Int) (h w : Int), vs = [.int h, .int w, .ref a] ∧ H a = some (.tup (xs.map V.int)) ∧ xs.length ≤ 1000 ∧
  ∀ H' D, Same H H' → H D = none → H' D = some (.lst ((room h w xs).map V.int)) → Q (.ref D) H'
theorem ok_rows_with_room (T : Txt K mg f fd) : FnOk P w K mg base CX0 1 (f 33) (fd 33) ["high", "wide", "share"] sp_rows_with_room := by
  refine T.F33.ok scrows_with_room (fun vs H Q E h => ?_) (fun cdv A outer s H vs Q E hr h => ?_)
  · obtain ⟨a, xs, h, w, rfl, _⟩ := h
    rfl
  · obtain ⟨a, xs, h, w, rfl, ha, hn, q⟩ := h
    refine ⟨_, (pss_cons (ps_set (i := 3) scrows_with_room.nd rfl (Or.inl rfl) (pe_op (r := rCatA K) op_catA (pe_tup (pa_cons (pv 1) pa_nil)) (pv 2)))
      (pss_cons (ps_set (i := 4) scrows_with_room.nd rfl (Or.inl rfl) (pe_op (r := rCatA K) op_catA (pv 2) (pe_tup (pa_cons pe_int pa_nil))))
      (pss_one (ps_ret (pe_lc (own := [("row", 5), ("limit", 6), ("length", 7)]) (g := (gTup _ 2 (gCons (gName 5) (gCons (gTup _ 2 (gCons (gName 6) (gCons (gName 7) gNil))) gNil)))) rfl scrows_with_room.nd (pi_enumZ (by rfl) T.m_enumerate (by rfl) T.m_zip (pa_cons (pv 3) (pa_cons (pv 4) pa_nil))) (blkOk_by (N := Nrows_with_room) (sc := defScope strows_with_room) (by decide +kernel)) (fun _ _ _ _ _ => (pg_tup rfl (pgs_cons (pg_name (i := 5) scrows_with_room.nd rfl (Or.inl rfl)) (pgs_cons (pg_tup rfl (pgs_cons (pg_name (i := 6) scrows_with_room.nd rfl (Or.inl rfl)) (pgs_cons (pg_name (i := 7) scrows_with_room.nd rfl (Or.inl rfl)) pgs_nil))) pgs_nil)))) (fun _ _ _ _ _ => pts_one (PW.pt (pw_and (pt_cmpR op_lt (pv 7) (pv 6) (nomark _)) (pw_and1 (pt_cmpR op_lt (pv 5) (pv 0) (nomark _)))))) (fun _ _ _ _ _ => (pv 5))))))), ?_⟩
    refine ⟨_, rfl, small_line (by show 1 ≤ 100000; omega), fun z nz => ?_⟩
    have s1 := same_new (o := .tup [V.int w]) nz
    refine ⟨.ref a, rfl, ?_⟩
    refine rd_catA (upd_same) (s1 _ _ ha) (small_line (by rw [List.length_map]; show 1 + xs.length ≤ 100000; omega)) fun H2 c s2 hc => ?_
    have ha2 := s2 _ _ (s1 _ _ ha)
    refine ⟨.ref a, rfl, small_line (by show 1 ≤ 100000; omega), fun z2 nz2 => ?_⟩
    have s3 := same_new (o := .tup [V.int 0]) nz2
    refine rd_catA (s3 _ _ ha2) (upd_same) (small_line (by rw [List.length_map]; show xs.length + 1 ≤ 100000; omega)) fun H4 d s4 hd => ?_
    have s04 := ((s1.trans s2).trans s3).trans s4
    have hc4 : H4 c = some (.tup ((w :: xs).map V.int)) := s4 _ _ (s3 _ _ hc)
    have hd4 : H4 d = some (.tup ((xs ++ [0]).map V.int)) := by rw [hd, List.map_append]; rfl
    refine ⟨.ref c, rfl, .ref d, rfl, c, d, _, _, rfl, SqT.of hc4, SqT.of hd4, fun D nD => ?_⟩
    have hL : min ((w :: xs).map V.int).length ((xs ++ [0]).map V.int).length = xs.length + 1 := by
      rw [List.length_map, List.length_map, List.length_append, List.length_cons]
      show min (xs.length + 1) (xs.length + 1) = _
      omega
    refine lc_it (walk_enumZ (xs := (w :: xs).map V.int) (ys := (xs ++ [0]).map V.int)) (Grow H4 D (fun i => (((List.range i).filter (pRoom h w xs)).map fun i : Nat => (i : Int)).map V.int)) (Grow.start nD rfl) (fun i H' _ g => ⟨SqT.of (g.1 _ _ hc4), SqT.of (g.1 _ _ hd4)⟩) ?_ ?_
    · rintro i v H5 _ hi g ⟨T', P', x, y, rfl, nP, nT, hTP, rfl, g1, g2⟩
      rw [hL] at hi
      have i1 : i < (w :: xs).length := hi
      have i2 : i < (xs ++ [0]).length := by rw [List.length_append]; exact hi
      dsimp only at g1 g2
      rw [List.getElem?_map, List.getElem?_eq_getElem i1] at g1
      rw [List.getElem?_map, List.getElem?_eq_getElem i2] at g2
      cases g1
      cases g2
      have e1 : gd (w :: xs) i = (w :: xs)[i] := gd_at i1
      have e2 : gd (xs ++ [0]) i = (xs ++ [0])[i] := gd_at i2
      have sP := same_new (o := .tup [V.int (w :: xs)[i], V.int (xs ++ [0])[i]]) nP
      have nT' : (upd H5 P' (.tup [V.int (w :: xs)[i], V.int (xs ++ [0])[i]])) T' = none := by rw [upd_ne hTP]; exact nT
      have sT := same_new (o := .tup [.int (i : Nat), .ref P']) nT'
      have s5 := sP.trans sT
      refine ⟨T', _, rfl, SqT.of upd_same, rfl, _, _, rfl, _, _, rfl, P', _, rfl, SqT.of (sT _ _ upd_same), rfl, _, _, rfl, _, _, rfl, rfl, rfl, rfl, ?_⟩
      have fl := fr_len (pRoom h w xs) i
      refine ⟨_, rfl, _, rfl, _, _, rfl, rfl, _, rfl, ite2 (fun e => ?_) (fun e => iteF (g.skip s5 ?_))⟩
      · have a1 : (xs ++ [0])[i] < (w :: xs)[i] := of_decide_eq_true e
        refine ⟨_, rfl, _, rfl, _, _, rfl, rfl, _, rfl, ite2 (fun e => ?_) (fun e => ?_)⟩
        · have a2 : (i : Int) < h := of_decide_eq_true e
          have hp : pRoom h w xs i = true := by
            unfold pRoom
            rw [e1, e2, decide_eq_true a1, decide_eq_true a2]
            rfl
          refine ⟨_, rfl, _, s5 _ _ g.2, small_lt (by rw [List.length_map]; omega), g.put nD s5 ?_⟩
          try dsimp only
          rw [fr_step, if_pos hp, List.map_append]
          rfl
        · have a2 : ¬ (i : Int) < h := fun z => e (decide_eq_true z)
          have hp : ¬ pRoom h w xs i = true := by
            unfold pRoom
            rw [decide_eq_false a2, Bool.and_false]
            decide
          refine g.skip s5 ?_
          try dsimp only
          rw [fr_step, if_neg hp, List.append_nil]
      · have a1 : ¬ (xs ++ [0])[i] < (w :: xs)[i] := fun z => e (decide_eq_true z)
        have hp : ¬ pRoom h w xs i = true := by
          unfold pRoom
          rw [e1, e2, decide_eq_false a1, Bool.false_and]
          decide
        try dsimp only
        rw [fr_step, if_neg hp, List.append_nil]
    · intro H5 g
      have g2 := g.2
      rw [hL] at g2
      refine q _ D (s04.trans g.1) ?_ g2
      cases eD : H D with
      | none => rfl
      | some o => rw [s04 _ _ eD] at nD; cases nD
def sp_in_rows : Sp := fun vs H Q _ => ∃ (a : Addr) (xs : List Int), vs = [.ref a] ∧ H a = some (.tup (xs.map V.int)) ∧ xs.length ≤ 1000 ∧
  ∀ H' D, Same H H' → H D = none → H' D = some (.lst ((room 20 20 xs).map V.int)) → Q (.ref D) H'
theorem ok_in_rows (T : Txt K mg f fd) : FnOk P w K mg base CX0 2 (f 30) (fd 30) ["share"] sp_in_rows := by
  refine T.F30.ok scin_rows (fun vs H Q E h => ?_) (fun cdv A outer s H vs Q E hr h => ?_)
  · obtain ⟨a, xs, rfl, _⟩ := h
    rfl
  · obtain ⟨a, xs, rfl, ha, hn, q⟩ := h
    refine ⟨_, (pss_one (ps_ret (pe_call (ok_rows_with_room T) (hr.mono (by decide)) (by rfl) T.g33 T.F33.kp T.b33 .nil pass0 (pa_cons (pe_cst (by rfl) T.c_MOST_ROWS) (pa_cons (pe_cst (by rfl) T.c_LONGEST_ROW) (pa_cons (pv 0) pa_nil)))))), ?_⟩
    exact ⟨.ref a, rfl, a, xs, 20, 20, rfl, ha, hn, q⟩
def sp_out_rows : Sp := fun vs H Q _ => ∃ (a : Addr) (xs : List Int), vs = [.ref a] ∧ H a = some (.tup (xs.map V.int)) ∧ xs.length ≤ 1000 ∧
  ∀ H' D, Same H H' → H D = none → H' D = some (.lst ((outL xs).map V.int)) → Q (.ref D) H'
theorem ok_out_rows (T : Txt K mg f fd) : FnOk P w K mg base CX0 1 (f 31) (fd 31) ["share"] sp_out_rows := by
  refine T.F31.ok scout_rows (fun vs H Q E h => ?_) (fun cdv A outer s H vs Q E hr h => ?_)
  · obtain ⟨a, xs, rfl, _⟩ := h
    rfl
  · obtain ⟨a, xs, rfl, ha, hn, q⟩ := h
    refine ⟨_, (pss_cons (ps_set (i := 1) scout_rows.nd rfl (Or.inl rfl) (pe_op (r := rCatA K) op_catA (pe_slice (r := rSlA K) sl_tupA (pv 0) (po_some pe_int) po_none) (pe_tup (pa_cons pe_int pa_nil))))
      (pss_one (ps_ret (pe_lc (own := [("row", 2), ("length", 3), ("under", 4)]) (g := (gTup _ 2 (gCons (gName 2) (gCons (gTup _ 2 (gCons (gName 3) (gCons (gName 4) gNil))) gNil)))) rfl scout_rows.nd (pi_enumZ (by rfl) T.m_enumerate (by rfl) T.m_zip (pa_cons (pv 0) (pa_cons (pv 1) pa_nil))) (blkOk_by (N := Nout_rows) (sc := defScope stout_rows) (by decide +kernel)) (fun _ _ _ _ _ => (pg_tup rfl (pgs_cons (pg_name (i := 2) scout_rows.nd rfl (Or.inl rfl)) (pgs_cons (pg_tup rfl (pgs_cons (pg_name (i := 3) scout_rows.nd rfl (Or.inl rfl)) (pgs_cons (pg_name (i := 4) scout_rows.nd rfl (Or.inl rfl)) pgs_nil))) pgs_nil)))) (fun _ _ _ _ _ => pts_one (pt_cmpR op_lt (pv 4) (pv 3) (nomark _))) (fun _ _ _ _ _ => (pv 2)))))), ?_⟩
    refine ⟨.ref a, rfl, _, rfl, ?_⟩
    unfold tNoPart
    refine rd_slA (K := K) ha fun H1 c1 s1 hc1 => ?_
    rw [show cutV (xs.map V.int) (some 1) none = (xs.drop 1).map V.int by rw [cut_drop (by decide), ← List.map_drop]; rfl] at hc1
    refine ⟨small_line (by show 1 ≤ 100000; omega), fun z nz => ?_⟩
    have s2 := same_new (o := .tup [V.int 0]) nz
    refine rd_catA (s2 _ _ hc1) (upd_same) (small_line (by rw [List.length_map, List.length_drop]; show xs.length - 1 + 1 ≤ 100000; omega)) fun H4 d s4 hd => ?_
    have s04 := (s1.trans s2).trans s4
    have ha4 := s04 _ _ ha
    have hd4 : H4 d = some (.tup ((xs.drop 1 ++ [0]).map V.int)) := by rw [hd, List.map_append]; rfl
    refine ⟨.ref a, rfl, .ref d, rfl, a, d, _, _, rfl, SqT.of ha4, SqT.of hd4, fun D nD => ?_⟩
    have hL : min (xs.map V.int).length ((xs.drop 1 ++ [0]).map V.int).length = xs.length := by
      rw [List.length_map, List.length_map, List.length_append, List.length_drop]
      show min xs.length (xs.length - 1 + 1) = _
      omega
    refine lc_it (walk_enumZ (xs := xs.map V.int) (ys := (xs.drop 1 ++ [0]).map V.int)) (Grow H4 D (fun i => (((List.range i).filter (pOut xs)).map fun i : Nat => (i : Int)).map V.int)) (Grow.start nD rfl) (fun i H' _ g => ⟨SqT.of (g.1 _ _ ha4), SqT.of (g.1 _ _ hd4)⟩) ?_ ?_
    · rintro i v H5 _ hi g ⟨T', P', x, y, rfl, nP, nT, hTP, rfl, g1, g2⟩
      rw [hL] at hi
      have i2 : i < (xs.drop 1 ++ [0]).length := by rw [List.length_append, List.length_drop]; show i < xs.length - 1 + 1; omega
      dsimp only at g1 g2
      rw [List.getElem?_map, List.getElem?_eq_getElem hi] at g1
      rw [List.getElem?_map, List.getElem?_eq_getElem i2] at g2
      cases g1
      cases g2
      have e1 : gd xs i = xs[i] := gd_at hi
      have e2 : gd (xs.drop 1 ++ [0]) i = (xs.drop 1 ++ [0])[i] := gd_at i2
      have sP := same_new (o := .tup [V.int xs[i], V.int (xs.drop 1 ++ [0])[i]]) nP
      have nT' : (upd H5 P' (.tup [V.int xs[i], V.int (xs.drop 1 ++ [0])[i]])) T' = none := by rw [upd_ne hTP]; exact nT
      have sT := same_new (o := .tup [.int (i : Nat), .ref P']) nT'
      have s5 := sP.trans sT
      refine ⟨T', _, rfl, SqT.of upd_same, rfl, _, _, rfl, _, _, rfl, P', _, rfl, SqT.of (sT _ _ upd_same), rfl, _, _, rfl, _, _, rfl, rfl, rfl, rfl, ?_⟩
      have fl := fr_len (pOut xs) i
      refine ⟨_, rfl, _, rfl, _, _, rfl, rfl, _, rfl, ite2 (fun e => ?_) (fun e => ?_)⟩
      · have a1 : (xs.drop 1 ++ [0])[i] < xs[i] := of_decide_eq_true e
        have hp : pOut xs i = true := by
          unfold pOut
          rw [e1, e2, decide_eq_true a1]
        refine ⟨_, rfl, _, s5 _ _ g.2, small_lt (by rw [List.length_map]; omega), g.put nD s5 ?_⟩
        try dsimp only
        rw [fr_step, if_pos hp, List.map_append]
        rfl
      · have a1 : ¬ (xs.drop 1 ++ [0])[i] < xs[i] := fun z => e (decide_eq_true z)
        have hp : ¬ pOut xs i = true := by
          unfold pOut
          rw [e1, e2, decide_eq_false a1]
          decide
        refine g.skip s5 ?_
        try dsimp only
        rw [fr_step, if_neg hp, List.append_nil]
    · intro H5 g
      have g2 := g.2
      rw [hL] at g2
      refine q _ D (s04.trans g.1) ?_ g2
      cases eD : H D with
      | none => rfl
      | some o => rw [s04 _ _ eD] at nD; cases nD
theorem mem_room {h w : Int} {xs : List Int} {r : Nat} : ((r : Nat) : Int) ∈ room h w xs ↔ r ≤ xs.length ∧ pRoom h w xs r = true := by
  unfold room
  rw [List.mem_map]
  constructor
  · rintro ⟨i, hi, e⟩
    have e' : i = r := by omega
    subst e'
    have := List.mem_filter.mp hi
    exact ⟨by have := List.mem_range.mp this.1; omega, this.2⟩
  · rintro ⟨h1, h2⟩
    exact ⟨r, List.mem_filter.mpr ⟨List.mem_range.mpr (by omega), h2⟩, rfl⟩
theorem mem_out {xs : List Int} {r : Nat} : ((r : Nat) : Int) ∈ outL xs ↔ r < xs.length ∧ pOut xs r = true := by
  unfold outL
  rw [List.mem_map]
  constructor
  · rintro ⟨i, hi, e⟩
    have e' : i = r := by omega
    subst e'
    have := List.mem_filter.mp hi
    exact ⟨List.mem_range.mp this.1, this.2⟩
  · rintro ⟨h1, h2⟩
    exact ⟨r, List.mem_filter.mpr ⟨List.mem_range.mpr h1, h2⟩, rfl⟩
theorem room_nat {h w : Int} {xs : List Int} {i : Int} (m : i ∈ room h w xs) : ∃ r : Nat, i = r := by
  obtain ⟨r, _, e⟩ := List.mem_map.mp m
  exact ⟨r, e.symm⟩
theorem out_nat {xs : List Int} {i : Int} (m : i ∈ outL xs) : ∃ r : Nat, i = r := by
  obtain ⟨r, _, e⟩ := List.mem_map.mp m
  exact ⟨r, e.symm⟩
/-! ### boxes, and what is none -/
def inS : V → Bool
  | .int i => decide (0 ≤ i) && decide (i ≤ 20)
  | _ => false
def Sd (H : Hp) (v : V) : Prop := (∃ i : Int, v = .int i) ∨ Odd H v
theorem Sd.same {H H' : Hp} {v : V} (h : Sd H v) (s : Same H H') : Sd H' v := h.imp (fun z => z) fun o => o.same s
theorem Odd.inS {H : Hp} {v : V} (h : Odd H v) : inS v = false := by cases h <;> rfl
inductive NonT (H : Hp) : V → Prop
  | int (i : Int) : NonT H (.int i)
  | non : NonT H .non
  | bl (b : Bool) : NonT H (.bl b)
  | str (s : Str) : NonT H (.str s)
  | lst {a : Addr} {xs : List V} : H a = some (.lst xs) → NonT H (.ref a)
  | dK {a : Addr} {kvs : List (Key × V)} : H a = some (.dK kvs) → NonT H (.ref a)
theorem NonT.ty {H : Hp} {v : V} (h : NonT H v) : ∃ t, TyX K H v t ∧ PySem.W.kitOne K t (.type "tuple") = some false := by
  cases h with
  | int i => exact ⟨_, .base (.int i), kit_ty (by decide +kernel)⟩
  | non => exact ⟨_, .base .non, kit_ty (by decide +kernel)⟩
  | bl b => exact ⟨_, .base (.bl b), kit_ty (by decide +kernel)⟩
  | str x => exact ⟨_, .base (.str x), kit_ty (by decide +kernel)⟩
  | lst e => exact ⟨_, .base (.lst e), kit_ty (by decide +kernel)⟩
  | dK e => exact ⟨_, .base (.dK e), kit_ty (by decide +kernel)⟩
def NoBx (H : Hp) (v : V) : Prop := NonT H v ∨ (∃ a xs, v = .ref a ∧ H a = some (.tup xs) ∧ xs.length ≠ 2) ∨ ∃ a x y, v = .ref a ∧ H a = some (.tup [x, y]) ∧ Sd H x ∧ Sd H y ∧ (inS x && inS y) = false
def Bx (H : Hp) (v : V) (h w : Int) : Prop := ∃ a, v = .ref a ∧ H a = some (.tup [.int h, .int w]) ∧ 0 ≤ h ∧ h ≤ 20 ∧ 0 ≤ w ∧ w ≤ 20
theorem NonT.same {H H' : Hp} {v : V} (h : NonT H v) (s : Same H H') : NonT H' v := by
  cases h with
  | int i => exact .int i
  | non => exact .non
  | bl b => exact .bl b
  | str x => exact .str x
  | lst e => exact .lst (s _ _ e)
  | dK e => exact .dK (s _ _ e)
theorem NoBx.same {H H' : Hp} {v : V} (h : NoBx H v) (s : Same H H') : NoBx H' v := by
  rcases h with h | ⟨a, xs, e, h1, h2⟩ | ⟨a, x, y, e, h1, h2, h3, h4⟩
  · exact .inl (h.same s)
  · exact .inr (.inl ⟨a, xs, e, s _ _ h1, h2⟩)
  · exact .inr (.inr ⟨a, x, y, e, s _ _ h1, h2.same s, h3.same s, h4⟩)
def sp_is_whole_from : Sp := fun vs H Q _ => ∃ (l m : Int) (v : V), vs = [.int l, .int m, v] ∧ ((∃ i : Int, v = .int i ∧ Q (.bl (decide (l ≤ i) && decide (i ≤ m))) H) ∨ (Odd H v ∧ Q (.bl false) H))
theorem ok_is_whole_from (T : Txt K mg f fd) : FnOk P w K mg base CX0 2 (f 20) (fd 20) ["least", "most", "thing"] sp_is_whole_from := by
  refine T.F20.ok scis_whole_from (fun vs H Q E h => ?_) (fun cdv A outer s H vs Q E hr h => ?_)
  · obtain ⟨l, m, v, rfl, _⟩ := h
    rfl
  · obtain ⟨l, m, v, rfl, h⟩ := h
    refine ⟨_, (pss_one (ps_ret (pe_and (pe_call (ok_is_whole T) (hr.mono (by decide)) (by rfl) T.g19 T.F19.kp T.b19 .nil pass0 (pa_cons (pv 2) pa_nil)) (pe_one (pe_chain op_le op_le (pv 0) (pv 2) (pv 1)))))), ?_⟩
    rcases h with ⟨i, rfl, q⟩ | ⟨o, q⟩
    · refine ⟨_, rfl, _, rfl, .inl ⟨i, rfl, _, rfl, ?_⟩⟩
      rw [if_pos rfl]
      refine ⟨_, rfl, _, rfl, _, _, rfl, rfl, _, rfl, ?_⟩
      by_cases c : l ≤ i
      · rw [decide_eq_true c] at q ⊢
        rw [if_pos rfl]
        exact ⟨_, rfl, _, _, rfl, rfl, q⟩
      · rw [decide_eq_false c] at q ⊢
        rw [if_neg Bool.false_ne_true]
        exact q
    · refine ⟨_, rfl, _, rfl, .inr ⟨o.nw, _, rfl, ?_⟩⟩
      rw [if_neg Bool.false_ne_true]
      exact q
def sp_is_box : Sp := fun vs H Q _ => ∃ v : V, vs = [v] ∧ ((∃ h w : Int, Bx H v h w ∧ ∀ H', Same H H' → Q (.bl true) H') ∨ (NoBx H v ∧ ∀ H', Same H H' → Q (.bl false) H'))
theorem ok_is_box (T : Txt K mg f fd) : FnOk P w K mg base CX0 3 (f 25) (fd 25) ["thing"] sp_is_box := by
  refine T.F25.ok scis_box (fun vs H Q E h => ?_) (fun cdv A outer s H vs Q E hr h => ?_)
  · obtain ⟨v, rfl, _⟩ := h
    rfl
  · obtain ⟨v, rfl, h⟩ := h
    refine ⟨_, (pss_cons (ps_if (PW.pt (pw_or (pt_not (pt_val (pe_callB call_isi (by rfl) T.m_isinstance bt_isinstance (pa_cons (pv 0) (pa_cons (pe_bltn (v := .ty "tuple") (by rfl) T.m_tuple bt_tuple rfl) pa_nil))))) (pw_or1 (pt_cmpR op_ne (pe_callB (r := rLenS K) len_seq (by rfl) T.m_len bt_len (pa_cons (pv 0) pa_nil)) pe_int (nomark _))))) (pss_one (ps_ret pe_bl)) pss_nil)
      (pss_one (ps_ret (pe_callB (cr_all rfl) (by rfl) T.m_all bt_all (pa_cons (pe_lc (own := [("side", 1)]) (g := (gName 1)) (tt := tYes) rfl scis_box.nd (pi_tup (pv 0)) (blkOk_by (N := Nis_box) (sc := defScope stis_box) (by decide +kernel)) (fun _ _ _ _ _ => (pg_name (i := 1) scis_box.nd rfl (Or.inl rfl))) (fun _ _ _ _ _ => pts_nil) (fun _ _ _ _ _ => (pe_call (ok_is_whole_from T) (hr.mono (by decide)) (by rfl) T.g20 T.F20.kp T.b20 .nil pass0 (pa_cons pe_int (pa_cons (pe_cst (by rfl) T.c_LONGEST_SIDE) (pa_cons (pv 1) pa_nil)))))) pa_nil))))), ?_⟩
    have h' : (NonT H v ∧ ∀ H', Same H H' → Q (.bl false) H') ∨ (∃ a xs, v = .ref a ∧ H a = some (.tup xs) ∧ xs.length ≠ 2 ∧ ∀ H', Same H H' → Q (.bl false) H') ∨
        ∃ a x y, v = .ref a ∧ H a = some (.tup [x, y]) ∧ Sd H x ∧ Sd H y ∧ ∀ H', Same H H' → Q (.bl (inS x && inS y)) H' := by
      rcases h with ⟨h, w, ⟨a, rfl, ha, h0, h1, w0, w1⟩, q⟩ | ⟨h | ⟨a, xs, rfl, ha, hl⟩ | ⟨a, x, y, rfl, ha, hx, hy, hb⟩, q⟩
      · refine .inr (.inr ⟨a, _, _, rfl, ha, .inl ⟨_, rfl⟩, .inl ⟨_, rfl⟩, fun H' s' => ?_⟩)
        have : (inS (.int h) && inS (.int w)) = true := by
          show ((decide (0 ≤ h) && decide (h ≤ 20)) && (decide (0 ≤ w) && decide (w ≤ 20))) = true
          rw [decide_eq_true h0, decide_eq_true h1, decide_eq_true w0, decide_eq_true w1]
          rfl
        rw [this]
        exact q _ s'
      · exact .inl ⟨h, q⟩
      · exact .inr (.inl ⟨a, xs, rfl, ha, hl, q⟩)
      · exact .inr (.inr ⟨a, x, y, rfl, ha, hx, hy, fun H' s' => by rw [hb]; exact q _ s'⟩)
    clear h
    rcases h' with ⟨h, q⟩ | ⟨a, xs, rfl, ha, hl, q⟩ | ⟨a, x, y, rfl, ha, hx, hy, q⟩
    · obtain ⟨t, ty, k⟩ := h.ty (K := K)
      exact ⟨_, rfl, _, .ty "tuple", t, .type "tuple", false, rfl, .ty _, ty, k, _, rfl, iteT (q _ (Same.refl _))⟩
    · refine ⟨_, rfl, _, .ty "tuple", .type "tuple", .type "tuple", true, rfl, .ty _, .base (.tup ha), kit_ty (by decide +kernel), _, rfl, iteF ⟨.ref a, rfl, a, _, rfl, .inr (SqT.of ha), rfl, _, rfl, ?_⟩⟩
      rw [decide_eq_false (fun z => hl (by have := V.int.inj z; omega))]
      exact iteT (q _ (Same.refl _))
    refine ⟨_, rfl, _, .ty "tuple", .type "tuple", .type "tuple", true, rfl, .ty _, .base (.tup ha), kit_ty (by decide +kernel), _, rfl, iteF ⟨.ref a, rfl, a, _, rfl, .inr (SqT.of ha), rfl, _, rfl, ?_⟩⟩
    rw [decide_eq_true (show V.int ((([x, y] : List V).length : Nat) : Int) = V.int 2 from rfl)]
    refine iteF ⟨.ref a, rfl, a, rfl, ⟨_, SqT.of ha⟩, fun D nD => ?_⟩
    refine lc_it (walk_tup (xs := [x, y])) (Grow H D (fun i => ([inS x, inS y].take i).map V.bl)) (Grow.start nD rfl) (fun i H' _ g => SqT.of (g.1 _ _ ha)) ?_ ?_
    · rintro i v _ H1 hi g ⟨rfl, hv⟩
      refine ⟨rfl, ?_⟩
      simp only [tYes, reduceIte]
      match i, hi, hv, g with
      | 0, _, hv, g =>
        cases hv
        refine ⟨_, rfl, 0, 20, x, rfl, ?_⟩
        rcases hx.same g.1 with ⟨i, rfl⟩ | o
        · exact .inl ⟨i, rfl, _, g.2, small_lt (by show 0 ≤ 100000; omega), g.put nD (Same.refl _) rfl⟩
        · refine .inr ⟨o, _, g.2, small_lt (by show 0 ≤ 100000; omega), g.put nD (Same.refl _) ?_⟩
          show [V.bl (inS x)] = [V.bl false]
          rw [o.inS]
      | 1, _, hv, g =>
        cases hv
        refine ⟨_, rfl, 0, 20, y, rfl, ?_⟩
        rcases hy.same g.1 with ⟨i, rfl⟩ | o
        · exact .inl ⟨i, rfl, _, g.2, small_lt (by show 1 ≤ 100000; omega), g.put nD (Same.refl _) rfl⟩
        · refine .inr ⟨o, _, g.2, small_lt (by show 1 ≤ 100000; omega), g.put nD (Same.refl _) ?_⟩
          show [V.bl (inS x), V.bl (inS y)] = [V.bl (inS x), V.bl false]
          rw [o.inS]
    · intro H1 g
      refine ⟨D, [inS x, inS y], rfl, SqL.of g.2, ?_⟩
      have : [inS x, inS y].all id = (inS x && inS y) := by simp
      rw [this]
      exact q _ g.1
def sp_need_box (C : Addr) : Sp := fun vs H Q E => ∃ v : V, vs = [v] ∧ ((∃ h w : Int, Bx H v h w ∧ ∀ H', Same H H' → Q .non H') ∨ (NoBx H v ∧ ∀ H', Same H H' → E (.ref C) none H'))
theorem ok_need_box (T : Txt K mg f fd) : FnOk P w K mg base (L2.CX P w) 4 (f 26) (fd 26) ["thing"] (sp_need_box (f 3)) := by
  refine T.F26.okX scneed_box (fun vs H Q E h => ?_) (fun cdv A outer s H vs Q E hr h => ?_)
  · obtain ⟨v, rfl, _⟩ := h
    rfl
  · obtain ⟨v, rfl, h⟩ := h
    refine ⟨_, (pss_one (ps_if (pt_not (pt_val (pe_call (ok_is_box T) (hr.mono (by decide)) (by rfl) T.g25 T.F25.kp T.b25 .nil pass0 (pa_cons (pv 0) pa_nil)))) (pss_one (ps_raise rfl (takes_of rfl rfl rfl rfl) (pmk_own PySem.F.excBase_ValueError T.x3 T.g3 T.k3 (raises_own T.e3.hs T.t3) rfl))) pss_nil)), ?_⟩
    rcases h with ⟨h, w, hb, q⟩ | ⟨hb, q⟩
    · exact ⟨_, rfl, v, rfl, .inl ⟨h, w, hb, fun H1 s1 => ⟨_, rfl, iteF (q _ s1)⟩⟩⟩
    · exact ⟨_, rfl, v, rfl, .inr ⟨hb, fun H1 s1 => ⟨_, rfl, iteT (q _ s1)⟩⟩⟩
def fitB (h w : Int) (xs : List Int) : Bool := decide ((xs.length : Int) ≤ h) && (xs.isEmpty || decide (gd xs 0 ≤ w))
def sp_fits_in (C : Addr) : Sp := fun vs H Q E => ∃ (v : V) (a : Addr) (xs : List Int), vs = [v, .ref a] ∧ H a = some (.tup (xs.map V.int)) ∧ ((∃ h w : Int, Bx H v h w ∧ ∀ H', Same H H' → Q (.bl (fitB h w xs)) H') ∨ (NoBx H v ∧ ∀ H', Same H H' → E (.ref C) none H'))
theorem ok_fits_in (T : Txt K mg f fd) : FnOk P w K mg base (L2.CX P w) 5 (f 27) (fd 27) ["box", "share"] (sp_fits_in (f 3)) := by
  refine T.F27.okX scfits_in (fun vs H Q E h => ?_) (fun cdv A outer s H vs Q E hr h => ?_)
  · obtain ⟨v, a, xs, rfl, _⟩ := h
    rfl
  · obtain ⟨v, a, xs, rfl, ha, h⟩ := h
    refine ⟨_, (pss_cons (ps_expr (pe_callS (ok_need_box T) (hr.mono (by decide)) (by rfl) T.g26 T.F26.kp T.b26 (fun σ => passAt (takes_of rfl rfl rfl rfl) σ) (pa_cons (pv 0) pa_nil)))
      (pss_cons (ps_asg (pv 0) (pg_tup rfl (pgs_cons (pg_name (i := 2) scfits_in.nd rfl (Or.inl rfl)) (pgs_cons (pg_name (i := 3) scfits_in.nd rfl (Or.inl rfl)) pgs_nil))))
      (pss_one (ps_ret (pe_and (pe_cmpR op_le (pe_callB (r := rLenS K) len_seq (by rfl) T.m_len bt_len (pa_cons (pv 1) pa_nil)) (pv 2) (nomark _)) (pe_one (pe_or (pe_notA (pv 1)) (pe_one (pe_cmpR op_le (pe_ix (r := rIxT K) ix_tup (pv 1) pe_int (fun _ _ => rfl)) (pv 3) (nomark _)))))))))), ?_⟩
    rcases h with ⟨h, w, hb, q⟩ | ⟨hb, q⟩
    · obtain ⟨b, rfl, hbx, r1⟩ := id hb
      refine ⟨_, rfl, .ref b, rfl, .inl ⟨h, w, hb, fun H1 s1 => ?_⟩⟩
      have ha1 := s1 _ _ ha
      refine ⟨.ref b, rfl, b, _, rfl, SqT.of (s1 _ _ hbx), rfl, _, _, rfl, _, _, rfl, rfl, ?_⟩
      refine ⟨.ref a, rfl, a, _, rfl, .inr (SqT.of ha1), _, rfl, _, _, rfl, rfl, _, rfl, ?_⟩
      have q1 := q _ s1
      unfold fitB at q1
      rw [List.length_map]
      by_cases c : (xs.length : Int) ≤ h
      · rw [decide_eq_true c] at q1 ⊢
        rw [if_pos rfl]
        refine ⟨.ref a, rfl, _, .inr (.inl ⟨_, SqT.of ha1, rfl⟩), _, rfl, ?_⟩
        cases xs with
        | nil => exact q1
        | cons x xs =>
          rw [if_neg (show ¬ (!!(List.map V.int (x :: xs)).isEmpty) = true from Bool.false_ne_true)]
          exact ⟨.ref a, rfl, a, _, 0, .int x, rfl, rfl, SqT.of ha1, at_get (by decide) rfl, _, rfl, _, _, rfl, rfl, q1⟩
      · rw [decide_eq_false c] at q1 ⊢
        rw [if_neg Bool.false_ne_true]
        exact q1
    · exact ⟨_, rfl, v, rfl, .inr ⟨hb, q⟩⟩
def sp_need_fit (C D : Addr) : Sp := fun vs H Q E => ∃ (v : V) (a : Addr) (xs : List Int), vs = [v, .ref a] ∧ H a = some (.tup (xs.map V.int)) ∧ ((∃ h w : Int, Bx H v h w ∧ fitB h w xs = true ∧ ∀ H', Same H H' → Q .non H') ∨
  (∃ h w : Int, Bx H v h w ∧ fitB h w xs = false ∧ ∀ H', Same H H' → E (.ref D) none H') ∨ (NoBx H v ∧ ∀ H', Same H H' → E (.ref C) none H'))
theorem ok_need_fit (T : Txt K mg f fd) : FnOk P w K mg base (L2.CX P w) 6 (f 28) (fd 28) ["box", "share"] (sp_need_fit (f 3) (f 4)) := by
  refine T.F28.okX scneed_fit (fun vs H Q E h => ?_) (fun cdv A outer s H vs Q E hr h => ?_)
  · obtain ⟨v, a, xs, rfl, _⟩ := h
    rfl
  · obtain ⟨v, a, xs, rfl, ha, h⟩ := h
    refine ⟨_, (pss_one (ps_if (pt_not (pt_val (pe_callS (ok_fits_in T) (hr.mono (by decide)) (by rfl) T.g27 T.F27.kp T.b27 (fun σ => passAt (takes_of rfl rfl rfl rfl) σ) (pa_cons (pv 0) (pa_cons (pv 1) pa_nil))))) (pss_one (ps_raise rfl (takes_of rfl rfl rfl rfl) (pmk_own PySem.F.excBase_ValueError T.x4 T.g4 T.k4 (raises_own T.e4.hs T.t4) rfl))) pss_nil)), ?_⟩
    rcases h with ⟨h, w, hb, hf, q⟩ | ⟨h, w, hb, hf, q⟩ | ⟨hb, q⟩
    · exact ⟨_, rfl, .ref a, rfl, v, a, xs, rfl, ha, .inl ⟨h, w, hb, fun H1 s1 => ⟨_, rfl, by rw [hf]; exact iteF (q _ s1)⟩⟩⟩
    · exact ⟨_, rfl, .ref a, rfl, v, a, xs, rfl, ha, .inl ⟨h, w, hb, fun H1 s1 => ⟨_, rfl, by rw [hf]; exact iteT (q _ s1)⟩⟩⟩
    · exact ⟨_, rfl, .ref a, rfl, v, a, xs, rfl, ha, .inr ⟨hb, q⟩⟩
def sp_in_rows_of (C D : Addr) : Sp := fun vs H Q E => ∃ (v : V) (a : Addr) (xs : List Int), vs = [v, .ref a] ∧ H a = some (.tup (xs.map V.int)) ∧ xs.length ≤ 1000 ∧
  ((∃ h w : Int, Bx H v h w ∧ fitB h w xs = true ∧ ∀ H' L, Same H H' → H L = none → H' L = some (.lst ((room h w xs).map V.int)) → Q (.ref L) H') ∨
  (∃ h w : Int, Bx H v h w ∧ fitB h w xs = false ∧ ∀ H', Same H H' → E (.ref D) none H') ∨ (NoBx H v ∧ ∀ H', Same H H' → E (.ref C) none H'))
theorem ok_in_rows_of (T : Txt K mg f fd) : FnOk P w K mg base (L2.CX P w) 7 (f 32) (fd 32) ["box", "share"] (sp_in_rows_of (f 3) (f 4)) := by
  refine T.F32.okX scin_rows_of (fun vs H Q E h => ?_) (fun cdv A outer s H vs Q E hr h => ?_)
  · obtain ⟨v, a, xs, rfl, _⟩ := h
    rfl
  · obtain ⟨v, a, xs, rfl, ha, hn, h⟩ := h
    refine ⟨_, (pss_cons (ps_expr (pe_callS (ok_need_fit T) (hr.mono (by decide)) (by rfl) T.g28 T.F28.kp T.b28 (fun σ => passAt (takes_of rfl rfl rfl rfl) σ) (pa_cons (pv 0) (pa_cons (pv 1) pa_nil))))
      (pss_cons (ps_asg (pv 0) (pg_tup rfl (pgs_cons (pg_name (i := 2) scin_rows_of.nd rfl (Or.inl rfl)) (pgs_cons (pg_name (i := 3) scin_rows_of.nd rfl (Or.inl rfl)) pgs_nil))))
      (pss_one (ps_ret (pe_call (ok_rows_with_room T) (hr.mono (by decide)) (by rfl) T.g33 T.F33.kp T.b33 .nil pass0 (pa_cons (pv 2) (pa_cons (pv 3) (pa_cons (pv 1) pa_nil)))))))), ?_⟩
    rcases h with ⟨h, w, hb, hf, q⟩ | ⟨h, w, hb, hf, q⟩ | ⟨hb, q⟩
    · obtain ⟨b, rfl, hbx, r1⟩ := id hb
      refine ⟨_, rfl, .ref a, rfl, .ref b, a, xs, rfl, ha, .inl ⟨h, w, hb, hf, fun H1 s1 => ?_⟩⟩
      refine ⟨.ref b, rfl, b, _, rfl, SqT.of (s1 _ _ hbx), rfl, _, _, rfl, _, _, rfl, rfl, ?_⟩
      refine ⟨_, rfl, _, rfl, .ref a, rfl, a, xs, h, w, rfl, s1 _ _ ha, hn, fun H2 L s2 nL hL => q _ L (s1.trans s2) ?_ hL⟩
      cases e : H L with
      | none => rfl
      | some o => rw [s1 _ _ e] at nL; cases nL
    · exact ⟨_, rfl, .ref a, rfl, v, a, xs, rfl, ha, .inr (.inl ⟨h, w, hb, hf, q⟩)⟩
    · exact ⟨_, rfl, .ref a, rfl, v, a, xs, rfl, ha, .inr (.inr ⟨hb, q⟩)⟩
theorem eqv_ints (xs ys : List Int) : PyData.eqv (.list (xs.map PyData.int)) (.list (ys.map PyData.int)) = decide (xs = ys) := by
  simp only [PyData.eqv]
  exact eqvAll_ints xs ys
/-! ### _law_is -/
def sp_law_is : Sp := fun vs H Q _ => ∃ (L : Addr) (l : List Int) (h w : Int), vs = [.ref L, .int h, .int w] ∧ H L = some (.lst (l.map V.int)) ∧ l.length ≤ 30 ∧
  (Shw h w l → ∀ H', Same H H' → Q (.bl true) H') ∧ (¬ Shw h w l → ∀ H', Same H H' → Q (.bl false) H')
theorem ok_law_is (T : Txt K mg f fd) : FnOk P w K mg base CX0 1 (f 38) (fd 38) ["_law_rows", "_law_high", "_law_wide"] sp_law_is := by
  refine T.F38.ok sc_law_is (fun vs H Q E h => ?_) (fun cdv A outer s H vs Q E hr h => ?_)
  · obtain ⟨L, l, h, w, rfl, _⟩ := h
    rfl
  · obtain ⟨L, l, h, w, rfl, hL, hln, q1, q0⟩ := h
    refine ⟨_, (Evl.pss_cut (ps_if (PW.pt (pw_or (pt_cmpR op_gt (pe_callB (r := rLenS K) len_seq (by rfl) T.m_len bt_len (pa_cons (pv 0) pa_nil)) (pv 1) (nomark _)) (pw_or1 (pt_cmpR (op_neD hr.units) (pe_lc (own := [("_law_row", 3)]) (g := (gName 3)) rfl sc_law_is.nd (pi_list (pv 0)) (blkOk_by (N := N_law_is) (sc := defScope st_law_is) (by decide +kernel)) (fun _ _ _ _ _ => (pg_name (i := 3) sc_law_is.nd rfl (Or.inl rfl))) (fun _ _ _ _ _ => pts_one (pt_not (pt_chain op_le op_le pe_int (pv 3) (pv 2)))) (fun _ _ _ _ _ => (pv 3))) (pe_lst pa_nil) (nomark _))))) (pss_one (ps_ret pe_bl)) pss_nil)
      (pss_one (ps_ret (pe_cmpR (op_eqD hr.units) (pe_lc (own := [("_law_k", 4)]) (g := (gName 4)) rfl sc_law_is.nd (pi_range2 (by rfl) T.m_range (pa_cons pe_int (pa_cons (pe_callB (r := rLenS K) len_seq (by rfl) T.m_len bt_len (pa_cons (pv 0) pa_nil)) pa_nil))) (blkOk_by (N := N_law_is) (sc := defScope st_law_is) (by decide +kernel)) (fun _ _ _ _ _ => (pg_name (i := 4) sc_law_is.nd rfl (Or.inl rfl))) (fun _ _ _ _ _ => pts_one (pt_cmpR op_gt (pe_ix (r := rIxL K) ix_list (pv 0) (pv 4) (fun _ _ => rfl)) (pe_ix (r := rIxL K) ix_list (pv 0) (pe_op op_sub (pv 4) pe_int) (fun _ _ => rfl)) (nomark _))) (fun _ _ _ _ _ => (pv 4))) (pe_lst pa_nil) (nomark _))))), ?_⟩
    refine ⟨fun σ H7 => σ = [some (.ref L), some (.int h), some (.int w), none, none] ∧ Same H H7 ∧ (l.length : Int) ≤ h ∧ ∀ x ∈ l, 1 ≤ x ∧ x ≤ w, ?_, ?_⟩
    · refine ⟨.ref L, rfl, L, _, rfl, .inl (SqL.of hL), _, rfl, _, _, rfl, rfl, _, rfl, ite2 (fun e => ?_) (fun e => ?_)⟩
      · refine iteT (q0 (fun g => ?_) _ (Same.refl _))
        have := of_decide_eq_true e
        rw [List.length_map] at this
        have := g.n
        omega
      have e1 : (l.length : Int) ≤ h := by
        have : ¬ h < ((l.map V.int).length : Int) := fun z => e (decide_eq_true z)
        rw [List.length_map] at this
        omega
      refine ⟨.ref L, rfl, L, rfl, ⟨_, SqL.of hL⟩, fun D nD => ?_⟩
      refine lc_it (walk_list (xs := l.map V.int)) (Grow H D (fun i => ((l.take i).filter fun x => !(decide (1 ≤ x) && decide (x ≤ w))).map V.int)) (Grow.start nD rfl) (fun i H' _ g => SqL.of (g.1 _ _ hL)) ?_ ?_
      · rintro i v _ H7 hi g ⟨rfl, hv⟩
        rw [List.length_map] at hi
        rw [List.getElem?_map, List.getElem?_eq_getElem hi] at hv
        cases hv
        have htk : (l.take (i + 1)).filter (fun x => !(decide (1 ≤ x) && decide (x ≤ w))) = (l.take i).filter (fun x => !(decide (1 ≤ x) && decide (x ≤ w))) ++ (if (!(decide (1 ≤ l[i]) && decide (l[i] ≤ w))) = true then [l[i]] else []) := by
          rw [List.take_add_one, List.getElem?_eq_getElem hi, List.filter_append]
          congr 1
          show List.filter _ [l[i]] = _
          rw [List.filter_cons, List.filter_nil]
        have hfl : ((l.take i).filter fun x => !(decide (1 ≤ x) && decide (x ≤ w))).length ≤ 30 := by
          have := List.length_filter_le (fun x : Int => !(decide (1 ≤ x) && decide (x ≤ w))) (l.take i)
          rw [List.length_take] at this
          omega
        have put : (!(decide (1 ≤ l[i]) && decide (l[i] ≤ w))) = true → (Grow H D (fun i => ((l.take i).filter fun x => !(decide (1 ≤ x) && decide (x ≤ w))).map V.int)) (i + 1) (upd H7 D (.lst (((l.take i).filter fun x => !(decide (1 ≤ x) && decide (x ≤ w))).map V.int ++ [V.int l[i]]))) := fun hb => by
          refine g.put nD (Same.refl _) ?_
          try dsimp only
          rw [htk, if_pos hb, List.map_append]
          rfl
        refine ⟨rfl, _, rfl, _, _, rfl, rfl, _, rfl, ?_⟩
        by_cases a1 : 1 ≤ l[i]
        · rw [decide_eq_true a1]
          refine iteT ⟨_, rfl, _, _, rfl, rfl, _, rfl, ?_⟩
          by_cases a2 : l[i] ≤ w
          · rw [decide_eq_true a2]
            refine iteF (g.skip (Same.refl _) ?_)
            try dsimp only
            rw [htk, if_neg (by rw [decide_eq_true a1, decide_eq_true a2]; decide), List.append_nil]
          · rw [decide_eq_false a2]
            exact iteT ⟨_, rfl, _, g.2, small_lt (by rw [List.length_map]; omega), put (by rw [decide_eq_false a2, Bool.and_false]; rfl)⟩
        · rw [decide_eq_false a1]
          exact iteF ⟨_, rfl, iteT ⟨_, rfl, _, g.2, small_lt (by rw [List.length_map]; omega), put (by rw [decide_eq_false a1, Bool.false_and]; rfl)⟩⟩
      · intro H7 g
        have g2 := g.2
        dsimp only at g2
        rw [List.length_map, List.take_of_length_le (Nat.le_refl _)] at g2
        refine ⟨Nat.zero_le _, fun z nz => ?_⟩
        have s8 := same_new (o := .lst []) nz
        have s68 := g.1.trans s8
        refine ⟨_, _, dp_lst (SqL.of (s8 _ _ g2)), dp_lst (xs := []) (SqL.of upd_same), shaped_lst _, shaped_lst [], _, rfl, ?_⟩
        rw [eqv_ints]
        by_cases c : l.filter (fun x => !(decide (1 ≤ x) && decide (x ≤ w))) = []
        · rw [decide_eq_true c]
          refine iteF ⟨rfl, s68, e1, fun x hxm => ?_⟩
          have := List.filter_eq_nil_iff.mp c x hxm
          by_cases b1 : 1 ≤ x
          · by_cases b2 : x ≤ w
            · exact ⟨b1, b2⟩
            · exact absurd (by rw [decide_eq_false b2, Bool.and_false]; rfl) this
          · exact absurd (by rw [decide_eq_false b1, Bool.false_and]; rfl) this
        · rw [decide_eq_false c]
          refine iteT (q0 (fun h => c ?_) _ s68)
          rw [List.filter_eq_nil_iff]
          intro x hxm
          obtain ⟨k, hk, rfl⟩ := List.mem_iff_getElem.mp hxm
          have := h.a k hk
          rw [gd_at hk] at this
          rw [decide_eq_true this.1, decide_eq_true this.2]
          decide
    rintro _ H7 ⟨rfl, s7, hl20, hlb⟩
    have hL7 := s7 _ _ hL
    refine ⟨.ref L, rfl, L, _, rfl, .inl (SqL.of hL7), 1, _, rfl, ⟨by decide, by decide, by rw [List.length_map]; omega, by rw [List.length_map]; omega⟩, fun D nD => ?_⟩
    have hcnt : (((l.map V.int).length : Int) - 1).toNat = l.length - 1 := by rw [List.length_map]; omega
    rw [hcnt]
    refine lc_it (walk_range (lo := 1) (n := l.length - 1)) (Grow H7 D (fun i => (((List.range i).filter fun k => decide (gd l k < gd l (k + 1))).map fun k : Nat => ((1 : Int) + (k : Int))).map V.int)) (Grow.start nD rfl) (fun _ _ _ _ => trivial) ?_ ?_
    · rintro i v _ H8 hi g ⟨rfl, rfl⟩
      have i1 : i + 1 < l.length := by omega
      have hL8 := g.1 _ _ hL7
      have step : ((List.range (i + 1)).filter fun k => decide (gd l k < gd l (k + 1))).map (fun k : Nat => ((1 : Int) + (k : Int))) = ((List.range i).filter fun k => decide (gd l k < gd l (k + 1))).map (fun k : Nat => ((1 : Int) + (k : Int))) ++ (if gd l i < gd l (i + 1) then [(1 : Int) + (i : Int)] else []) := by
        rw [List.range_succ, List.filter_append, List.map_append, List.filter_cons, List.filter_nil]
        congr 1
        by_cases c : gd l i < gd l (i + 1)
        · rw [if_pos c, if_pos (decide_eq_true c)]; rfl
        · rw [if_neg c, if_neg (by rw [decide_eq_true_eq]; exact c)]; rfl
      have hfl : (((List.range i).filter fun k => decide (gd l k < gd l (k + 1))).map fun k : Nat => ((1 : Int) + (k : Int))).length ≤ 30 := by
        rw [List.length_map]
        have := List.length_filter_le (fun k => decide (gd l k < gd l (k + 1))) (List.range i)
        rw [List.length_range] at this
        omega
      refine ⟨rfl, .ref L, rfl, _, rfl, L, _, _, .int l[i + 1], rfl, rfl, SqL.of hL8, at_get (by omega) (by rw [show ((1 : Int) + (i : Int)).toNat = i + 1 by omega, List.getElem?_map, List.getElem?_eq_getElem i1]; rfl), .ref L, rfl, _, rfl, _, _, rfl, rfl, L, _, _, .int l[i], rfl, rfl, SqL.of hL8, at_get (by omega) (by rw [show ((1 : Int) + (i : Int) - 1).toNat = i by omega, List.getElem?_map, List.getElem?_eq_getElem (show i < l.length by omega)]; rfl), _, _, rfl, rfl, _, rfl, ite2 (fun e => ?_) (fun e => ?_)⟩
      · have e1 : gd l i < gd l (i + 1) := by
          rw [gd_at i1, gd_at (by omega)]
          exact of_decide_eq_true e
        refine ⟨_, rfl, _, g.2, small_lt (by rw [List.length_map]; omega), g.put nD (Same.refl _) ?_⟩
        try dsimp only
        rw [step, if_pos e1, List.map_append]
        rfl
      · have e1 : ¬ gd l i < gd l (i + 1) := fun z => e (decide_eq_true (by rw [gd_at i1, gd_at (by omega)] at z; exact z))
        refine g.skip (Same.refl _) ?_
        try dsimp only
        rw [step, if_neg e1, List.append_nil]
    · intro H8 g
      have g2 := g.2
      dsimp only at g2
      refine ⟨Nat.zero_le _, fun z nz => ?_⟩
      have s9 := same_new (o := .lst []) nz
      have s79 := g.1.trans s9
      refine ⟨_, _, dp_lst (SqL.of (s9 _ _ g2)), dp_lst (xs := []) (SqL.of upd_same), shaped_lst _, shaped_lst [], ?_⟩
      rw [eqv_ints]
      by_cases c : ((List.range (l.length - 1)).filter fun k => decide (gd l k < gd l (k + 1))).map (fun k : Nat => ((1 : Int) + (k : Int))) = []
      · rw [decide_eq_true c]
        have c' := List.filter_eq_nil_iff.mp (List.map_eq_nil_iff.mp c)
        refine q1 ⟨hl20, fun k hk => ?_, fun k hk => ?_⟩ _ (s7.trans s79)
        · rw [gd_at hk]
          exact hlb _ (List.getElem_mem hk)
        · have := c' k (List.mem_range.mpr (by omega))
          rw [decide_eq_true_eq] at this
          omega
      · rw [decide_eq_false c]
        refine q0 (fun h => c ?_) _ (s7.trans s79)
        rw [List.map_eq_nil_iff, List.filter_eq_nil_iff]
        intro k hk
        have := h.f k (by have := List.mem_range.mp hk; omega)
        rw [decide_eq_true_eq]
        omega
/-! ### _law_comes, _law_goes -/
def sp_law_comes : Sp := fun vs H Q _ => ∃ (a : Addr) (xs : List Int) (r : Nat), vs = [.ref a, .int (r : Int)] ∧ H a = some (.tup (xs.map V.int)) ∧ xs.length ≤ 25 ∧ r ≤ xs.length ∧ ∀ H' L, Same H H' → H' L = some (.lst ((putL xs r).map V.int)) → Q (.ref L) H'
theorem ok_law_comes (T : Txt K mg f fd) : FnOk P w K mg base CX0 1 (f 39) (fd 39) ["_law_share_here", "_law_row"] sp_law_comes := by
  refine T.F39.ok sc_law_comes (fun vs H Q E h => ?_) (fun cdv A outer s H vs Q E hr h => ?_)
  · obtain ⟨a, xs, r, rfl, _⟩ := h
    rfl
  · obtain ⟨a, xs, r, rfl, ha, hn, hr', q⟩ := h
    refine ⟨_, (pss_cons (ps_set (i := 2) sc_law_comes.nd rfl (Or.inl rfl) (pe_op op_cat (pe_callTy (r := rLstO K) lst_of (by rfl) T.m_list bt_list (pa_cons (pv 0) pa_nil)) (pe_op op_rep (pe_lst (pa_cons pe_int pa_nil)) (pe_callTy call_int1 (by rfl) T.m_int bt_int (pa_cons (pe_cmpR op_eq (pv 1) (pe_callB (r := rLenS K) len_seq (by rfl) T.m_len bt_len (pa_cons (pv 0) pa_nil)) (nomark _)) pa_nil)))))
      (pss_cons (ps_asg (pe_op op_add (pe_ix (r := rIxL K) ix_list (pv 2) (pv 1) (fun _ _ => rfl)) pe_int) (pg_sub (pv 2) (pv 1) set_list))
      (pss_one (ps_ret (pv 2))))), ?_⟩
    refine ⟨.ref a, rfl, a, _, rfl, .inr (SqT.of ha), fun L1 n1 => ⟨small_line (by show 1 ≤ 100000; omega), fun z nz => ?_⟩⟩
    have s1 := same_new (o := .lst (xs.map V.int)) n1
    have s2 := same_new (o := .lst [V.int 0]) nz
    have s12 := s1.trans s2
    refine ⟨_, rfl, .ref a, rfl, a, _, rfl, .inr (SqT.of (s12 _ _ ha)), rfl, .inr ⟨_, rfl, ?_⟩⟩
    obtain ⟨k, hk, hk2⟩ : ∃ k : Nat, (if decide (V.int (r : Int) = V.int (((xs.map V.int).length : Nat) : Int)) = true then (1 : Int) else 0) = (k : Int) ∧ k = (if r = xs.length then 1 else 0) := by
      rw [List.length_map]
      by_cases c : r = xs.length
      · rw [if_pos (decide_eq_true (by rw [c])), if_pos c]
        exact ⟨1, rfl, rfl⟩
      · rw [if_neg (by rw [decide_eq_true_eq]; intro z; exact c (by have := V.int.inj z; omega)), if_neg c]
        exact ⟨0, rfl, rfl⟩
    have hk1 : k ≤ 1 := by rw [hk2]; split <;> omega
    refine ⟨z, (k : Int), _, rfl, congrArg V.int hk, upd_same, by omega, by omega, small_line (by show 1 * ((k : Int)).toNat ≤ 100000; omega), fun Y nY => ?_⟩
    have s3 := same_new (o := .lst (List.replicate ((k : Int)).toNat [V.int 0]).flatten) nY
    have hYl : (List.replicate ((k : Int)).toNat [V.int 0]).flatten = (if r = xs.length then [0] else [] : List Int).map V.int := by
      rw [Int.toNat_natCast, hk2]
      split <;> rfl
    refine ⟨L1, Y, _, _, rfl, rfl, s3 _ _ (s2 _ _ upd_same), upd_same, small_line (by rw [List.length_map, hYl, List.length_map]; split <;> (simp only [List.length_cons, List.length_nil]; omega)), fun L nL => ?_⟩
    have s4 := same_new (o := .lst (xs.map V.int ++ (List.replicate ((k : Int)).toNat [V.int 0]).flatten)) nL
    have s04 := (s12.trans s3).trans s4
    have hL4 : (upd (upd (upd (upd H L1 (.lst (xs.map V.int))) z (.lst [V.int 0])) Y (.lst (List.replicate ((k : Int)).toNat [V.int 0]).flatten)) L (.lst (xs.map V.int ++ (List.replicate ((k : Int)).toNat [V.int 0]).flatten))) L = some (.lst ((xs ++ (if r = xs.length then [0] else [])).map V.int)) := by
      rw [upd_same, hYl, List.map_append]
    have nL0 : H L = none := by
      cases e : H L with
      | none => rfl
      | some o => rw [s3 _ _ (s12 _ _ e)] at nL; cases nL
    generalize upd (upd (upd (upd H L1 (.lst (xs.map V.int))) z (.lst [V.int 0])) Y (.lst (List.replicate ((k : Int)).toNat [V.int 0]).flatten)) L (.lst (xs.map V.int ++ (List.replicate ((k : Int)).toNat [V.int 0]).flatten)) = H4 at hL4 s04 ⊢
    obtain ⟨l, hl⟩ : ∃ l : List Int, l = xs ++ (if r = xs.length then [0] else []) := ⟨_, rfl⟩
    rw [← hl] at hL4
    have hrl : r < l.length := by rw [hl, List.length_append]; split <;> (simp only [List.length_cons, List.length_nil]; omega)
    refine ⟨.ref L, rfl, _, rfl, L, _, _, .int l[r], rfl, rfl, SqL.of hL4, at_get (by omega) (by rw [Int.toNat_natCast, List.getElem?_map, List.getElem?_eq_getElem hrl]; rfl), _, _, rfl, rfl, .ref L, rfl, _, rfl, L, _, _, r, rfl, rfl, hL4, ?_, .ref L, rfl, q _ L (fun b o e => ?_) ?_⟩
    · rw [ix_in (by omega) (by rw [List.length_map]; omega), Int.toNat_natCast]
    · rw [upd_ne (ne_of_none e nL0)]
      exact s04 _ _ e
    · rw [upd_same, ← List.map_set]
      congr 2
      congr 1
      by_cases c : r = xs.length
      · rw [if_pos c] at hl
        have : l[r] = 0 := by
          rw [← gd_at hrl, hl, gd_snoc, if_neg (by omega), if_pos c]
        rw [this, hl]
        unfold putL
        rw [if_pos c, c, List.set_append_right _ _ (Nat.le_refl _), Nat.sub_self]
        rfl
      · rw [if_neg c, List.append_nil] at hl
        subst hl
        rw [put_set hrl, gd_at hrl]
def sp_law_goes : Sp := fun vs H Q _ => ∃ (a : Addr) (xs : List Int) (r : Nat), vs = [.ref a, .int (r : Int)] ∧ H a = some (.tup (xs.map V.int)) ∧ xs.length ≤ 25 ∧ r < xs.length ∧ ∀ H' L, Same H H' → H' L = some (.lst ((left xs r).map V.int)) → Q (.ref L) H'
theorem ok_law_goes (T : Txt K mg f fd) : FnOk P w K mg base CX0 1 (f 40) (fd 40) ["_law_share_here", "_law_row"] sp_law_goes := by
  refine T.F40.ok sc_law_goes (fun vs H Q E h => ?_) (fun cdv A outer s H vs Q E hr h => ?_)
  · obtain ⟨a, xs, r, rfl, _⟩ := h
    rfl
  · obtain ⟨a, xs, r, rfl, ha, hn, hr', q⟩ := h
    refine ⟨_, (pss_cons (ps_set (i := 2) sc_law_goes.nd rfl (Or.inl rfl) (pe_callTy (r := rLstO K) lst_of (by rfl) T.m_list bt_list (pa_cons (pv 0) pa_nil)))
      (pss_cons (ps_asg (pe_op op_sub (pe_ix (r := rIxL K) ix_list (pv 2) (pv 1) (fun _ _ => rfl)) pe_int) (pg_sub (pv 2) (pv 1) set_list))
      (Evl.pss_cut (ps_if (PW.pt (pw_and (pt_cmpR op_eq (pv 1) (pe_op op_sub (pe_callB (r := rLenS K) len_seq (by rfl) T.m_len bt_len (pa_cons (pv 2) pa_nil)) pe_int) (nomark _)) (pw_and1 (pt_cmpR op_eq (pe_ix (r := rIxL K) ix_list (pv 2) (pv 1) (fun _ _ => rfl)) pe_int (nomark _))))) (pss_one (ps_expr (pe_bm0 PySem.F.plainAttrs_list PySem.F.slot_list_pop PySem.F.type_list_pop mt_pop (pv 2)))) pss_nil)
      (pss_one (ps_ret (pv 2)))))), ?_⟩
    refine ⟨.ref a, rfl, a, _, rfl, .inr (SqT.of ha), fun L nL => ?_⟩
    have s1 := same_new (o := .lst (xs.map V.int)) nL
    have hL1 : (upd H L (.lst (xs.map V.int))) L = some (.lst (xs.map V.int)) := upd_same
    refine ⟨.ref L, rfl, _, rfl, L, _, _, .int xs[r], rfl, rfl, SqL.of hL1, at_get (by omega) (by rw [Int.toNat_natCast, List.getElem?_map, List.getElem?_eq_getElem hr']; rfl), _, _, rfl, rfl, .ref L, rfl, _, rfl, L, _, _, r, rfl, rfl, hL1, ?_, ?_⟩
    · rw [ix_in (by omega) (by rw [List.length_map]; omega), Int.toNat_natCast]
    have hL2 : (upd (upd H L (.lst (xs.map V.int))) L (.lst ((xs.map V.int).set r (.int (xs[r] - 1))))) L = some (.lst ((xs.set r (gd xs r - 1)).map V.int)) := by
      rw [upd_same, ← List.map_set, gd_at hr']
    have s2 : Same H (upd (upd H L (.lst (xs.map V.int))) L (.lst ((xs.map V.int).set r (.int (xs[r] - 1))))) := fun b o e => by
      rw [upd_ne (ne_of_none e nL), upd_ne (ne_of_none e nL)]
      exact e
    have hg : gd (xs.set r (gd xs r - 1)) r = gd xs r - 1 := by rw [gd_set hr', if_pos rfl]
    have hlen : (xs.set r (gd xs r - 1)).length = xs.length := List.length_set ..
    refine ⟨fun σ H3 => σ = [some (.ref a), some (.int (r : Int)), some (.ref L)] ∧ Same H H3 ∧ H3 L = some (.lst ((left xs r).map V.int)), ?_, ?_⟩
    · generalize upd (upd H L (.lst (xs.map V.int))) L (.lst ((xs.map V.int).set r (.int (xs[r] - 1)))) = H2 at hL2 s2
      refine ⟨_, rfl, .ref L, rfl, L, _, rfl, .inl (SqL.of hL2), _, _, rfl, rfl, rfl, _, rfl, ?_⟩
      rw [List.length_map, hlen]
      by_cases c : r + 1 = xs.length
      · rw [decide_eq_true (show V.int (r : Int) = V.int ((xs.length : Int) - 1) by congr 1; omega)]
        have hrs : r < (xs.set r (gd xs r - 1)).length := by omega
        refine iteT ⟨.ref L, rfl, _, rfl, L, _, _, .int (gd xs r - 1), rfl, rfl, SqL.of hL2, at_get (by omega) (by rw [Int.toNat_natCast, List.getElem?_map, List.getElem?_eq_getElem hrs, ← gd_at hrs, hg]; rfl), rfl, _, rfl, ite2 (fun e => ?_) (fun e => ?_)⟩
        · have e1 : gd xs r = 1 := by
            have := V.int.inj (of_decide_eq_true e)
            omega
          have el : left xs r = xs.take r := by unfold left; rw [if_pos ⟨c, e1⟩]
          have es : xs.set r (gd xs r - 1) = xs.take r ++ [0] := by
            rw [set_cut hr', e1, List.drop_of_length_le (by omega), List.append_nil]
            rfl
          refine ⟨.ref L, rfl, .inl ⟨rfl, _, SqL.of hL2⟩, L, _, .int 0, rfl, rfl, hL2, ?_, rfl, fun b o e => ?_, ?_⟩
          · rw [es, List.length_map, List.length_append, List.getElem?_map]
            show Option.map V.int ((xs.take r ++ [0])[(xs.take r).length]?) = _
            rw [List.getElem?_append_right (Nat.le_refl _), Nat.sub_self]
            rfl
          · rw [upd_ne (ne_of_none e nL)]
            exact s2 _ _ e
          · rw [upd_same, el, es, List.map_append]
            show some (HO.lst (List.map V.int (xs.take r) ++ [V.int 0]).dropLast) = _
            rw [List.dropLast_concat]
        · have e1 : ¬ gd xs r = 1 := fun z => e (decide_eq_true (by rw [z]; rfl))
          have el : left xs r = xs.set r (gd xs r - 1) := by unfold left; rw [if_neg fun z => e1 z.2]
          exact ⟨rfl, s2, by rw [el]; exact hL2⟩
      · rw [decide_eq_false (show ¬ V.int (r : Int) = V.int ((xs.length : Int) - 1) from fun z => c (by have := V.int.inj z; omega))]
        have el : left xs r = xs.set r (gd xs r - 1) := by unfold left; rw [if_neg fun z => c z.1]
        exact iteF ⟨rfl, s2, by rw [el]; exact hL2⟩
    rintro _ H3 ⟨rfl, s3, hL3⟩
    exact ⟨.ref L, rfl, q _ L s3 hL3⟩
/-! ### _law_told -/
def Tells (H : Hp) (v : V) (xs : List Int) (Q : VK) : Prop :=
  (∃ h w : Int, Bx H v h w ∧ fitB h w xs = true ∧ ∀ H' L, Same H H' → H L = none → H' L = some (.lst ((room h w xs).map V.int)) → Q (.ref L) H') ∨
  (∃ h w : Int, Bx H v h w ∧ fitB h w xs = false ∧ ∀ H', Same H H' → Q (.str "fit") H') ∨ (NoBx H v ∧ ∀ H', Same H H' → Q (.str "box") H')
def sp_law_told : Sp := fun vs H Q _ => ∃ (v : V) (a : Addr) (xs : List Int), vs = [v, .ref a] ∧ H a = some (.tup (xs.map V.int)) ∧ xs.length ≤ 100 ∧ Tells H v xs Q
theorem ok_law_told (T : Txt K mg f fd) : FnOk P w K mg base CX0 8 (f 41) (fd 41) ["_law_box", "_law_share_here"] sp_law_told := by
  refine T.F41.ok sc_law_told (fun vs H Q E h => ?_) (fun cdv A outer s H vs Q E hr h => ?_)
  · obtain ⟨v, a, xs, rfl, _⟩ := h
    rfl
  · obtain ⟨v, a, xs, rfl, ha, hn, h⟩ := h
    refine ⟨_, (pss_cons (ps_set (i := 2) sc_law_told.nd rfl (Or.inl rfl) pe_non)
      (pss_cons (ps_set (i := 3) sc_law_told.nd rfl (Or.inl rfl) pe_non)
      (Evl.pss_cut (ps_try_keep (i := 4) rfl rfl rfl sc_law_told.nd rfl rfl ⟨rfl, by decide, .inl T.g1⟩ (fun W pn xe tk po => (pss_one (ps_set (i := 3) sc_law_told.nd rfl (Or.inl rfl) (pe_callS (ok_in_rows_of T) (hr.mono (by decide)) (by rfl) T.g32 T.F32.kp T.b32 (fun σ => passAt tk σ) (pa_cons (pv 0) (pa_cons (pv 1) pa_nil)))))) (fun a oe cls pn hz hfl => (pss_one (ps_set (i := 2) sc_law_told.nd rfl (Or.inl rfl) (pv 4)))))
      (Evl.pss_cut (ps_if (pt_cmpR op_isN (pv 2) pe_non (nomark _)) (pss_one (ps_ret (pv 3))) pss_nil)
      (Evl.pss_cut (ps_if (pt_val (pe_callB (r := rIsKT K) call_isKT (by rfl) T.m_isinstance bt_isinstance (pa_cons (pv 2) (pa_cons (pe_tup (pa_cons (pe_glob (v := .ref (f 15)) (by rfl) T.g15 rfl) (pa_cons (pe_glob (v := .ref (f 7)) (by rfl) T.g7 rfl) (pa_cons (pe_glob (v := .ref (f 8)) (by rfl) T.g8 rfl) (pa_cons (pe_glob (v := .ref (f 10)) (by rfl) T.g10 rfl) (pa_cons (pe_glob (v := .ref (f 5)) (by rfl) T.g5 rfl) (pa_cons (pe_glob (v := .ref (f 13)) (by rfl) T.g13 rfl) (pa_cons (pe_glob (v := .ref (f 6)) (by rfl) T.g6 rfl) (pa_cons (pe_glob (v := .ref (f 2)) (by rfl) T.g2 rfl) (pa_cons (pe_glob (v := .ref (f 9)) (by rfl) T.g9 rfl) (pa_cons (pe_glob (v := .ref (f 12)) (by rfl) T.g12 rfl) pa_nil))))))))))) pa_nil)))) (pss_one (ps_ret pe_str)) pss_nil)
      (Evl.pss_cut (ps_if (PW.pt (pw_or (pt_val (pe_callB (r := rIsKT K) call_isKT (by rfl) T.m_isinstance bt_isinstance (pa_cons (pv 2) (pa_cons (pe_tup (pa_cons (pe_glob (v := .ref (f 16)) (by rfl) T.g16 rfl) (pa_cons (pe_glob (v := .ref (f 11)) (by rfl) T.g11 rfl) (pa_cons (pe_glob (v := .ref (f 14)) (by rfl) T.g14 rfl) (pa_cons (pe_glob (v := .ref (f 17)) (by rfl) T.g17 rfl) pa_nil))))) pa_nil)))) (pw_or1 (pt_not (pt_val (pe_callB (r := rIsK K) call_isK (by rfl) T.m_isinstance bt_isinstance (pa_cons (pv 2) (pa_cons (pe_bltn (v := .ty "ValueError") (by rfl) T.m_ValueError bt_ValueError rfl) pa_nil)))))))) (pss_one (ps_ret pe_str)) pss_nil)
      (Evl.pss_cut (ps_if (pt_cmpR op_eq (pe_callB (r := rIsK K) call_isK (by rfl) T.m_isinstance bt_isinstance (pa_cons (pv 2) (pa_cons (pe_glob (v := .ref (f 3)) (by rfl) T.g3 rfl) pa_nil))) (pe_callB (r := rIsK K) call_isK (by rfl) T.m_isinstance bt_isinstance (pa_cons (pv 2) (pa_cons (pe_glob (v := .ref (f 4)) (by rfl) T.g4 rfl) pa_nil))) (nomark _)) (pss_one (ps_ret pe_str)) pss_nil)
      (pss_one (ps_ret (pe_ix (r := rIxL K) ix_list (pe_lst (pa_cons pe_str (pa_cons pe_str pa_nil))) (pe_callTy call_int1 (by rfl) T.m_int bt_int (pa_cons (pe_callB (r := rIsK K) call_isK (by rfl) T.m_isinstance bt_isinstance (pa_cons (pv 2) (pa_cons (pe_glob (v := .ref (f 3)) (by rfl) T.g3 rfl) pa_nil))) pa_nil)) (fun _ _ => rfl))))))))))), ?_⟩
    refine ⟨fun σ H1 => (∃ c, σ = [some v, some (.ref a), some .non, some (.ref c), none] ∧ Q (.ref c) H1) ∨ (∃ x, σ = [some v, some (.ref a), some (.ref x), some .non, none] ∧ H1 x = some (ExK (.ref (f 3)) x) ∧ ∀ H2, Same H1 H2 → Q (.str "box") H2) ∨ (∃ x, σ = [some v, some (.ref a), some (.ref x), some .non, none] ∧ H1 x = some (ExK (.ref (f 4)) x) ∧ ∀ H2, Same H1 H2 → Q (.str "fit") H2), ?_, ?_⟩
    · refine ⟨_, rfl, .ref a, rfl, v, a, xs, rfl, ha, by omega, ?_⟩
      rcases h with ⟨h, w, hb, hf, q⟩ | ⟨h, w, hb, hf, q⟩ | ⟨hb, q⟩
      · exact .inl ⟨h, w, hb, hf, fun H1 L s1 nL hL => .inl ⟨L, rfl, q _ L s1 nL hL⟩⟩
      · exact .inr (.inl ⟨h, w, hb, hf, fun H1 s1 => ⟨rfl, T.m4, fun x nx => ⟨.ref x, rfl, .inr (.inr ⟨x, rfl, upd_same, fun H2 s2 => q _ ((s1.trans (same_new nx)).trans s2)⟩)⟩⟩⟩)
      · exact .inr (.inr ⟨hb, fun H1 s1 => ⟨rfl, T.m3, fun x nx => ⟨.ref x, rfl, .inr (.inl ⟨x, rfl, upd_same, fun H2 s2 => q _ ((s1.trans (same_new nx)).trans s2)⟩)⟩⟩⟩)
    rintro _ H1 (⟨c, rfl, q⟩ | ⟨x, rfl, hx, q⟩ | ⟨x, rfl, hx, q⟩)
    · refine ⟨fun _ _ => False, ?_, fun _ _ z => z.elim⟩
      refine ⟨_, rfl, rfl, _, rfl, ?_⟩
      rw [decide_eq_true rfl]
      exact iteT ⟨.ref c, rfl, q⟩
    · refine ⟨fun σ H2 => σ = [some v, some (.ref a), some (.ref x), some .non, none] ∧ H1 = H2, ?_, ?_⟩
      · refine ⟨_, rfl, rfl, _, rfl, ?_⟩
        rw [decide_eq_false (fun z => nomatch z)]
        exact iteF ⟨rfl, rfl⟩
      rintro _ _ ⟨rfl, rfl⟩
      refine ⟨fun σ H2 => σ = [some v, some (.ref a), some (.ref x), some .non, none] ∧ Same H1 H2, ?_, ?_⟩
      · refine ⟨.ref x, rfl, small_line (by show 10 ≤ 100000; omega), fun tp ntp => ?_⟩
        have s2 := same_new (o := .tup [V.ref (f 15), V.ref (f 7), V.ref (f 8), V.ref (f 10), V.ref (f 5), V.ref (f 13), V.ref (f 6), V.ref (f 2), V.ref (f 9), V.ref (f 12)]) ntp
        refine ⟨x, f 3, tp, _, _, false, rfl, s2 _ _ hx, T.e3, upd_same, (.cons (.own _) (.cons (.own _) (.cons (.own _) (.cons (.own _) (.cons (.own _) (.cons (.own _) (.cons (.own _) (.cons (.own _) (.cons (.own _) (.cons (.own _) .nil)))))))))), ?_, _, rfl, iteF ⟨rfl, s2⟩⟩
        simp only [PySem.W.kitAny, T.q3_15, T.q3_7, T.q3_8, T.q3_10, T.q3_5, T.q3_13, T.q3_6, T.q3_2, T.q3_9, T.q3_12]
      rintro _ H2 ⟨rfl, s2⟩
      have hx2 := s2 _ _ hx
      refine ⟨fun σ H3 => σ = [some v, some (.ref a), some (.ref x), some .non, none] ∧ Same H2 H3, ?_, ?_⟩
      · refine ⟨.ref x, rfl, small_line (by show 4 ≤ 100000; omega), fun tp ntp => ?_⟩
        have s3 := same_new (o := .tup [V.ref (f 16), V.ref (f 11), V.ref (f 14), V.ref (f 17)]) ntp
        refine ⟨x, f 3, tp, _, _, false, rfl, s3 _ _ hx2, T.e3, upd_same, (.cons (.own _) (.cons (.own _) (.cons (.own _) (.cons (.own _) .nil)))), ?_, _, rfl, iteF ?_⟩
        · simp only [PySem.W.kitAny, T.q3_16, T.q3_11, T.q3_14, T.q3_17]
        · exact ⟨.ref x, rfl, x, f 3, .ty "ValueError", .type "ValueError", true, rfl, s3 _ _ hx2, T.e3, .ty _, T.v3, _, rfl, iteF ⟨rfl, s3⟩⟩
      rintro _ H3 ⟨rfl, s3⟩
      have hx3 := s3 _ _ hx2
      refine ⟨fun σ H4 => σ = [some v, some (.ref a), some (.ref x), some .non, none] ∧ H3 = H4, ?_, ?_⟩
      · refine ⟨.ref x, rfl, x, f 3, .ref (f 3), .ref (f 3), true, rfl, hx3, T.e3, .own _, T.q3_3, ?_⟩
        refine ⟨.ref x, rfl, x, f 3, .ref (f 4), .ref (f 4), false, rfl, hx3, T.e3, .own _, T.q3_4, ?_⟩
        refine ⟨rfl, _, rfl, ?_⟩
        rw [decide_eq_false (fun z => nomatch z)]
        exact iteF ⟨rfl, rfl⟩
      rintro _ _ ⟨rfl, rfl⟩
      refine ⟨small_line (by show 2 ≤ 100000; omega), fun z nz => ?_⟩
      have s4 := same_new (o := .lst [V.str "fit", V.str "box"]) nz
      exact ⟨.ref x, rfl, x, f 3, .ref (f 3), .ref (f 3), true, rfl, s4 _ _ hx3, T.e3, .own _, T.q3_3, .inr ⟨true, rfl, z, _, _, .str "box", rfl, rfl, SqL.of upd_same, rfl, q _ ((s2.trans s3).trans s4)⟩⟩
    · refine ⟨fun σ H2 => σ = [some v, some (.ref a), some (.ref x), some .non, none] ∧ H1 = H2, ?_, ?_⟩
      · refine ⟨_, rfl, rfl, _, rfl, ?_⟩
        rw [decide_eq_false (fun z => nomatch z)]
        exact iteF ⟨rfl, rfl⟩
      rintro _ _ ⟨rfl, rfl⟩
      refine ⟨fun σ H2 => σ = [some v, some (.ref a), some (.ref x), some .non, none] ∧ Same H1 H2, ?_, ?_⟩
      · refine ⟨.ref x, rfl, small_line (by show 10 ≤ 100000; omega), fun tp ntp => ?_⟩
        have s2 := same_new (o := .tup [V.ref (f 15), V.ref (f 7), V.ref (f 8), V.ref (f 10), V.ref (f 5), V.ref (f 13), V.ref (f 6), V.ref (f 2), V.ref (f 9), V.ref (f 12)]) ntp
        refine ⟨x, f 4, tp, _, _, false, rfl, s2 _ _ hx, T.e4, upd_same, (.cons (.own _) (.cons (.own _) (.cons (.own _) (.cons (.own _) (.cons (.own _) (.cons (.own _) (.cons (.own _) (.cons (.own _) (.cons (.own _) (.cons (.own _) .nil)))))))))), ?_, _, rfl, iteF ⟨rfl, s2⟩⟩
        simp only [PySem.W.kitAny, T.q4_15, T.q4_7, T.q4_8, T.q4_10, T.q4_5, T.q4_13, T.q4_6, T.q4_2, T.q4_9, T.q4_12]
      rintro _ H2 ⟨rfl, s2⟩
      have hx2 := s2 _ _ hx
      refine ⟨fun σ H3 => σ = [some v, some (.ref a), some (.ref x), some .non, none] ∧ Same H2 H3, ?_, ?_⟩
      · refine ⟨.ref x, rfl, small_line (by show 4 ≤ 100000; omega), fun tp ntp => ?_⟩
        have s3 := same_new (o := .tup [V.ref (f 16), V.ref (f 11), V.ref (f 14), V.ref (f 17)]) ntp
        refine ⟨x, f 4, tp, _, _, false, rfl, s3 _ _ hx2, T.e4, upd_same, (.cons (.own _) (.cons (.own _) (.cons (.own _) (.cons (.own _) .nil)))), ?_, _, rfl, iteF ?_⟩
        · simp only [PySem.W.kitAny, T.q4_16, T.q4_11, T.q4_14, T.q4_17]
        · exact ⟨.ref x, rfl, x, f 4, .ty "ValueError", .type "ValueError", true, rfl, s3 _ _ hx2, T.e4, .ty _, T.v4, _, rfl, iteF ⟨rfl, s3⟩⟩
      rintro _ H3 ⟨rfl, s3⟩
      have hx3 := s3 _ _ hx2
      refine ⟨fun σ H4 => σ = [some v, some (.ref a), some (.ref x), some .non, none] ∧ H3 = H4, ?_, ?_⟩
      · refine ⟨.ref x, rfl, x, f 4, .ref (f 3), .ref (f 3), false, rfl, hx3, T.e4, .own _, T.q4_3, ?_⟩
        refine ⟨.ref x, rfl, x, f 4, .ref (f 4), .ref (f 4), true, rfl, hx3, T.e4, .own _, T.q4_4, ?_⟩
        refine ⟨rfl, _, rfl, ?_⟩
        rw [decide_eq_false (fun z => nomatch z)]
        exact iteF ⟨rfl, rfl⟩
      rintro _ _ ⟨rfl, rfl⟩
      refine ⟨small_line (by show 2 ≤ 100000; omega), fun z nz => ?_⟩
      have s4 := same_new (o := .lst [V.str "fit", V.str "box"]) nz
      exact ⟨.ref x, rfl, x, f 4, .ref (f 3), .ref (f 3), false, rfl, s4 _ _ hx3, T.e4, .own _, T.q4_3, .inr ⟨false, rfl, z, _, _, .str "fit", rfl, rfl, SqL.of upd_same, rfl, q _ ((s2.trans s3).trans s4)⟩⟩
/-! ### _law_boxes -/
def BoxV (p : Addr) (H : Hp) (v : V) : Prop := ∃ c h w, v = .ref c ∧ c ≠ p ∧ H c = some (.tup [.int h, .int w]) ∧ 0 ≤ h ∧ h ≤ 20 ∧ 0 ≤ w ∧ w ≤ 20
theorem BoxV.kp {p : Addr} {H H' : Hp} {v : V} (b : BoxV p H v) (k : Kp p H H') : BoxV p H' v :=
  let ⟨c, h, w, e, n, hc, r⟩ := b
  ⟨c, h, w, e, n, k _ _ n hc, r⟩
def BoxL (p : Addr) (H : Hp) (Z : Addr) (zs : List V) (n : Nat) : Prop := H Z = some (.lst zs) ∧ Z ≠ p ∧ zs.length = n ∧ ∀ v ∈ zs, BoxV p H v
theorem BoxL.kp {p : Addr} {H H' : Hp} {Z : Addr} {zs : List V} {n : Nat} (b : BoxL p H Z zs n) (k : Kp p H H') : BoxL p H' Z zs n :=
  ⟨k _ _ b.2.1 b.1, b.2.1, b.2.2.1, fun v m => (b.2.2.2 v m).kp k⟩
theorem Pen.nw {H : Hp} {p l x : Addr} {ns : List Int} (h : Pen H p l ns) (n : H x = none) : x ≠ p :=
  let ⟨_, _, e⟩ := h.pen
  (ne_of_none e n).symm
theorem boxv_new {H : Hp} {p l c : Addr} {ns : List Int} (h : Pen H p l ns) {x y : Int} (n : H c = none) (r : 0 ≤ x ∧ x ≤ 20 ∧ 0 ≤ y ∧ y ≤ 20) : BoxV p (upd H c (.tup [.int x, .int y])) (.ref c) :=
  ⟨c, x, y, rfl, h.nw n, upd_same, r⟩
theorem BoxL.add {p : Addr} {H H' : Hp} {Z S : Addr} {zs ws : List V} {n m : Nat} (b : BoxL p H Z zs n) (k : Kp p H H') (hS : H' S = some (.lst (zs ++ ws))) (np : S ≠ p) (hw : ∀ v ∈ ws, BoxV p H' v) (hm : n + ws.length = m) : BoxL p H' S (zs ++ ws) m :=
  ⟨hS, np, by rw [List.length_append, b.2.2.1]; exact hm, fun v hv => (List.mem_append.mp hv).elim (fun z => (b.2.2.2 v z).kp k) (hw v)⟩
def sp_law_boxes : Sp := fun vs H Q _ => ∃ (p l : Addr) (ns : List Int) (a : Addr) (xs : List Int), vs = [.ref p, .ref a] ∧ Pen H p l ns ∧ H a = some (.tup (xs.map V.int)) ∧ Sh xs ∧
  ∀ H' L zs, Kp p H H' → Pen H' p l ns → BoxL p H' L zs 10 → Q (.ref L) H'
theorem ok_law_boxes (T : Txt K mg f fd) : FnOk P w K mg base CX0 2 (f 42) (fd 42) ["_law_pen_here", "_law_share_here"] sp_law_boxes := by
  refine T.F42.ok sc_law_boxes (fun vs H Q E h => ?_) (fun cdv A outer s H vs Q E hr h => ?_)
  · obtain ⟨p, l, ns, a, xs, rfl, _⟩ := h
    rfl
  · obtain ⟨p, l, ns, a, xs, rfl, hP, ha, hx, q⟩ := h
    have hn := hx.n
    refine ⟨_, (pss_cons (ps_set (i := 2) sc_law_boxes.nd rfl (Or.inl rfl) (pe_callB (r := rLenS K) len_seq (by rfl) T.m_len bt_len (pa_cons (pv 1) pa_nil)))
      (Evl.pss_cut (ps_set (i := 3) sc_law_boxes.nd rfl (Or.inl rfl) (pe_ix (r := rIxT K) ix_tup (pe_op (r := rCatA K) op_catA (pv 1) (pe_tup (pa_cons pe_int pa_nil))) pe_int (fun _ _ => rfl)))
      (Evl.pss_cut (ps_set (i := 4) sc_law_boxes.nd rfl (Or.inl rfl) (pe_lst (pa_cons (pe_tup (pa_cons (pv 2) (pa_cons (pv 3) pa_nil))) (pa_cons (pe_tup (pa_cons (pe_callB (call_min2 rfl) (by rfl) T.m_min bt_min (pa_cons pe_int (pa_cons (pe_op op_add (pv 2) pe_int) pa_nil))) (pa_cons (pv 3) pa_nil))) (pa_cons (pe_tup (pa_cons (pv 2) (pa_cons (pe_callB (call_min2 rfl) (by rfl) T.m_min bt_min (pa_cons pe_int (pa_cons (pe_op op_add (pv 3) pe_int) pa_nil))) pa_nil))) pa_nil)))))
      (Evl.pss_cut (ps_set (i := 4) sc_law_boxes.nd rfl (Or.inl rfl) (pe_op op_cat (pv 4) (pe_lst (pa_cons (pe_tup (pa_cons (pe_callB (call_max2 rfl) (by rfl) T.m_max bt_max (pa_cons pe_int (pa_cons (pe_op op_sub (pv 2) pe_int) pa_nil))) (pa_cons (pv 3) pa_nil))) (pa_cons (pe_tup (pa_cons (pv 2) (pa_cons (pe_callB (call_max2 rfl) (by rfl) T.m_max bt_max (pa_cons pe_int (pa_cons (pe_op op_sub (pv 3) pe_int) pa_nil))) pa_nil))) (pa_cons (pe_tup (pa_cons pe_int (pa_cons pe_int pa_nil))) pa_nil))))))
      (Evl.pss_cut (ps_set (i := 4) sc_law_boxes.nd rfl (Or.inl rfl) (pe_op op_cat (pv 4) (pe_lst (pa_cons (pe_tup (pa_cons pe_int (pa_cons (pe_call (ok_law_take T) (hr.mono (by decide)) (by rfl) T.g36 T.F36.kp T.b36 .nil pass0 (pa_cons (pv 0) (pa_cons pe_int pa_nil))) pa_nil))) (pa_cons (pe_tup (pa_cons (pe_call (ok_law_take T) (hr.mono (by decide)) (by rfl) T.g36 T.F36.kp T.b36 .nil pass0 (pa_cons (pv 0) (pa_cons pe_int pa_nil))) (pa_cons pe_int pa_nil))) pa_nil)))))
      (pss_one (ps_ret (pe_op op_cat (pv 4) (pe_lst (pa_cons (pe_tup (pa_cons (pe_call (ok_law_take T) (hr.mono (by decide)) (by rfl) T.g36 T.F36.kp T.b36 .nil pass0 (pa_cons (pv 0) (pa_cons pe_int pa_nil))) (pa_cons (pe_call (ok_law_take T) (hr.mono (by decide)) (by rfl) T.g36 T.F36.kp T.b36 .nil pass0 (pa_cons (pv 0) (pa_cons pe_int pa_nil))) pa_nil))) (pa_cons (pe_tup (pa_cons (pe_callB (call_min2 rfl) (by rfl) T.m_min bt_min (pa_cons pe_int (pa_cons (pe_op op_add (pv 2) pe_int) pa_nil))) (pa_cons (pe_callB (call_min2 rfl) (by rfl) T.m_min bt_min (pa_cons pe_int (pa_cons (pe_op op_add (pv 3) pe_int) pa_nil))) pa_nil))) pa_nil))))))))))), ?_⟩
    refine ⟨.ref a, rfl, a, _, rfl, .inr (SqT.of ha), ?_⟩
    obtain ⟨hh, ehh⟩ : ∃ hh : Int, hh = ((xs.map V.int).length : Int) := ⟨_, rfl⟩
    rw [← ehh]
    rw [List.length_map] at ehh
    refine ⟨fun σ H1 => ∃ ww : Int, σ = [some (.ref p), some (.ref a), some (.int hh), some (.int ww), none] ∧ Same H H1 ∧ 0 ≤ ww ∧ ww ≤ 20, ?_, ?_⟩
    · refine ⟨.ref a, rfl, small_line (by show 1 ≤ 100000; omega), fun t nt => ?_⟩
      have s1 := same_new (o := .tup [V.int 0]) nt
      refine rd_catA (s1 _ _ ha) upd_same (small_line (by rw [List.length_map]; show xs.length + 1 ≤ 100000; omega)) fun H2 c s2 hc => ?_
      refine ⟨c, _, 0, .int (gd (xs ++ [0]) 0), rfl, rfl, SqT.of hc, at_get (by decide) ?_, _, rfl, s1.trans s2, ?_, ?_⟩
      · cases xs with
        | nil => rfl
        | cons x xs => rfl
      · cases xs with
        | nil => decide
        | cons x xs => exact Int.le_trans (by decide) (hx.a x List.mem_cons_self).1
      · cases xs with
        | nil => decide
        | cons x xs => exact (hx.a x List.mem_cons_self).2
    rintro _ H1 ⟨ww, rfl, s1, w0, w1⟩
    have h0 : 0 ≤ hh := by omega
    have h1 : hh ≤ 20 := by omega
    clear ehh
    have P1 := hP.same s1
    refine ⟨fun σ H2 => ∃ Z zs, σ = [some (.ref p), some (.ref a), some (.int hh), some (.int ww), some (.ref Z)] ∧ Same H H2 ∧ BoxL p H2 Z zs 3, ?_, ?_⟩
    · refine ⟨_, rfl, _, rfl, small_line (by show 2 ≤ 100000; omega), fun c1 n1 => ?_⟩
      have b1 := boxv_new P1 n1 ⟨h0, h1, w0, w1⟩
      have t1 := same_new (o := .tup [V.int hh, V.int ww]) n1
      refine ⟨_, rfl, _, _, rfl, rfl, 20, hh + 1, rfl, _, rfl, small_line (by show 2 ≤ 100000; omega), fun c2 n2 => ?_⟩
      have b2 := boxv_new (P1.same t1) (x := if hh + 1 < 20 then hh + 1 else 20) (y := ww) n2 ⟨by split <;> omega, by split <;> omega, w0, w1⟩
      have t2 := same_new (o := .tup [V.int (if hh + 1 < 20 then hh + 1 else 20), V.int ww]) n2
      refine ⟨_, rfl, _, rfl, _, _, rfl, rfl, 20, ww + 1, rfl, small_line (by show 2 ≤ 100000; omega), fun c3 n3 => ?_⟩
      have b3 := boxv_new ((P1.same t1).same t2) (x := hh) (y := if ww + 1 < 20 then ww + 1 else 20) n3 ⟨h0, h1, by split <;> omega, by split <;> omega⟩
      have t3 := same_new (o := .tup [V.int hh, V.int (if ww + 1 < 20 then ww + 1 else 20)]) n3
      refine ⟨small_line (by show 3 ≤ 100000; omega), fun Z nZ => ?_⟩
      have t4 := same_new (o := .lst [V.ref c1, V.ref c2, V.ref c3]) nZ
      have P3 := ((P1.same t1).same t2).same t3
      refine ⟨Z, _, rfl, s1.trans (((t1.trans t2).trans t3).trans t4), upd_same, P3.nw nZ, rfl, ?_⟩
      intro v hv
      simp only [List.mem_cons, List.not_mem_nil, or_false] at hv
      rcases hv with rfl | rfl | rfl
      · exact b1.kp (Kp.of ((t2.trans t3).trans t4))
      · exact b2.kp (Kp.of (t3.trans t4))
      · exact b3.kp (Kp.of t4)
    rintro _ H2 ⟨Z, zs, rfl, s2, B2⟩
    have P2 := hP.same s2
    refine ⟨fun σ H3 => ∃ Z zs, σ = [some (.ref p), some (.ref a), some (.int hh), some (.int ww), some (.ref Z)] ∧ Same H H3 ∧ BoxL p H3 Z zs 6, ?_, ?_⟩
    · refine ⟨.ref Z, rfl, _, rfl, _, _, rfl, rfl, 0, hh - 1, rfl, _, rfl, small_line (by show 2 ≤ 100000; omega), fun c1 n1 => ?_⟩
      have b1 := boxv_new P2 (x := if hh - 1 > 0 then hh - 1 else 0) (y := ww) n1 ⟨by split <;> omega, by split <;> omega, w0, w1⟩
      have t1 := same_new (o := .tup [V.int (if hh - 1 > 0 then hh - 1 else 0), V.int ww]) n1
      refine ⟨_, rfl, _, rfl, _, _, rfl, rfl, 0, ww - 1, rfl, small_line (by show 2 ≤ 100000; omega), fun c2 n2 => ?_⟩
      have b2 := boxv_new (P2.same t1) (x := hh) (y := if ww - 1 > 0 then ww - 1 else 0) n2 ⟨h0, h1, by split <;> omega, by split <;> omega⟩
      have t2 := same_new (o := .tup [V.int hh, V.int (if ww - 1 > 0 then ww - 1 else 0)]) n2
      refine ⟨small_line (by show 2 ≤ 100000; omega), fun c3 n3 => ?_⟩
      have b3 := boxv_new ((P2.same t1).same t2) (x := 20) (y := 20) n3 ⟨by decide, by decide, by decide, by decide⟩
      have t3 := same_new (o := .tup [V.int 20, V.int 20]) n3
      refine ⟨small_line (by show 3 ≤ 100000; omega), fun W nW => ?_⟩
      have t4 := same_new (o := .lst [V.ref c1, V.ref c2, V.ref c3]) nW
      have t14 := ((t1.trans t2).trans t3).trans t4
      have P4 := P2.same t14
      refine ⟨Z, W, _, _, rfl, rfl, t14 _ _ B2.1, upd_same, small_line (by rw [B2.2.2.1]; show 3 + 3 ≤ 100000; omega), fun S nS => ?_⟩
      have t5 := same_new (o := .lst (zs ++ [V.ref c1, V.ref c2, V.ref c3])) nS
      refine ⟨S, _, rfl, s2.trans (t14.trans t5), B2.add (Kp.of (t14.trans t5)) upd_same (P4.nw nS) (fun v hv => ?_) rfl⟩
      simp only [List.mem_cons, List.not_mem_nil, or_false] at hv
      rcases hv with rfl | rfl | rfl
      · exact b1.kp (Kp.of (((t2.trans t3).trans t4).trans t5))
      · exact b2.kp (Kp.of ((t3.trans t4).trans t5))
      · exact b3.kp (Kp.of (t4.trans t5))
    rintro _ H3 ⟨Z, zs, rfl, s3, B3⟩
    have P3 := hP.same s3
    refine ⟨fun σ H4 => ∃ Z zs, σ = [some (.ref p), some (.ref a), some (.int hh), some (.int ww), some (.ref Z)] ∧ Kp p H H4 ∧ Pen H4 p l ns ∧ BoxL p H4 Z zs 8, ?_, ?_⟩
    · refine ⟨.ref Z, rfl, .ref p, rfl, p, l, ns, 21, rfl, P3, by decide, by decide, fun H4 d k4 P4 d0 d1 => ⟨small_line (by show 2 ≤ 100000; omega), fun c1 n1 => ?_⟩⟩
      have b1 := boxv_new P4 (x := 0) (y := d) n1 ⟨by decide, by decide, d0, by omega⟩
      have t1 := same_new (o := .tup [V.int 0, V.int d]) n1
      refine ⟨.ref p, rfl, p, l, ns, 21, rfl, P4.same t1, by decide, by decide, fun H5 e k5 P5 e0 e1 => ⟨small_line (by show 2 ≤ 100000; omega), fun c2 n2 => ?_⟩⟩
      have b2 := boxv_new P5 (x := e) (y := 0) n2 ⟨e0, by omega, by decide, by decide⟩
      have t2 := same_new (o := .tup [V.int e, V.int 0]) n2
      refine ⟨small_line (by show 2 ≤ 100000; omega), fun W nW => ?_⟩
      have t3 := same_new (o := .lst [V.ref c1, V.ref c2]) nW
      have P6 := P5.same (t2.trans t3)
      have k6 := (k4.trans (Kp.of t1)).trans (k5.trans (Kp.of (t2.trans t3)))
      refine ⟨Z, W, _, _, rfl, rfl, k6 _ _ B3.2.1 B3.1, upd_same, small_line (by rw [B3.2.2.1]; show 6 + 2 ≤ 100000; omega), fun S nS => ?_⟩
      have t5 := same_new (o := .lst (zs ++ [V.ref c1, V.ref c2])) nS
      refine ⟨S, _, rfl, (Kp.of s3).trans (k6.trans (Kp.of t5)), P6.same t5, B3.add (k6.trans (Kp.of t5)) upd_same (P6.nw nS) (fun v hv => ?_) rfl⟩
      simp only [List.mem_cons, List.not_mem_nil, or_false] at hv
      rcases hv with rfl | rfl
      · exact b1.kp (k5.trans (Kp.of ((t2.trans t3).trans t5)))
      · exact b2.kp (Kp.of (t3.trans t5))
    rintro _ H4 ⟨Z, zs, rfl, k4, P4, B4⟩
    refine ⟨.ref Z, rfl, .ref p, rfl, p, l, ns, 21, rfl, P4, by decide, by decide, fun H5 d k5 P5 d0 d1 => ?_⟩
    refine ⟨.ref p, rfl, p, l, ns, 21, rfl, P5, by decide, by decide, fun H6 e k6 P6 e0 e1 => ⟨small_line (by show 2 ≤ 100000; omega), fun c1 n1 => ?_⟩⟩
    have b1 := boxv_new P6 (x := d) (y := e) n1 ⟨d0, by omega, e0, by omega⟩
    have t1 := same_new (o := .tup [V.int d, V.int e]) n1
    refine ⟨_, rfl, _, _, rfl, rfl, 20, hh + 1, rfl, _, rfl, _, _, rfl, rfl, 20, ww + 1, rfl, small_line (by show 2 ≤ 100000; omega), fun c2 n2 => ?_⟩
    have b2 := boxv_new (P6.same t1) (x := if hh + 1 < 20 then hh + 1 else 20) (y := if ww + 1 < 20 then ww + 1 else 20) n2 ⟨by split <;> omega, by split <;> omega, by split <;> omega, by split <;> omega⟩
    have t2 := same_new (o := .tup [V.int (if hh + 1 < 20 then hh + 1 else 20), V.int (if ww + 1 < 20 then ww + 1 else 20)]) n2
    refine ⟨small_line (by show 2 ≤ 100000; omega), fun W nW => ?_⟩
    have t3 := same_new (o := .lst [V.ref c1, V.ref c2]) nW
    have t13 := (t1.trans t2).trans t3
    have P7 := P6.same t13
    have k7 := (k5.trans k6).trans (Kp.of t13)
    refine ⟨Z, W, _, _, rfl, rfl, k7 _ _ B4.2.1 B4.1, upd_same, small_line (by rw [B4.2.2.1]; show 8 + 2 ≤ 100000; omega), fun S nS => ?_⟩
    have t5 := same_new (o := .lst (zs ++ [V.ref c1, V.ref c2])) nS
    refine q _ S _ (k4.trans (k7.trans (Kp.of t5))) (P7.same t5) (B4.add (k7.trans (Kp.of t5)) upd_same (P7.nw nS) (fun v hv => ?_) rfl)
    simp only [List.mem_cons, List.not_mem_nil, or_false] at hv
    rcases hv with rfl | rfl
    · exact b1.kp (Kp.of ((t2.trans t3).trans t5))
    · exact b2.kp (Kp.of (t3.trans t5))
/-! ### _law_no_box -/
def NbV (p : Addr) (H : Hp) (v : V) : Prop := ∀ H', Kp p H H' → NoBx H' v
theorem NbV.kp {p : Addr} {H H' : Hp} {v : V} (b : NbV p H v) (k : Kp p H H') : NbV p H' v := fun H2 k2 => b H2 (k.trans k2)
def NbL (p : Addr) (H : Hp) (Z : Addr) (zs : List V) (n : Nat) : Prop := H Z = some (.lst zs) ∧ Z ≠ p ∧ zs.length = n ∧ ∀ v ∈ zs, NbV p H v
theorem NbL.kp {p : Addr} {H H' : Hp} {Z : Addr} {zs : List V} {n : Nat} (b : NbL p H Z zs n) (k : Kp p H H') : NbL p H' Z zs n :=
  ⟨k _ _ b.2.1 b.1, b.2.1, b.2.2.1, fun v m => (b.2.2.2 v m).kp k⟩
theorem NbL.add {p : Addr} {H H' : Hp} {Z S : Addr} {zs ws : List V} {n m : Nat} (b : NbL p H Z zs n) (k : Kp p H H') (hS : H' S = some (.lst (zs ++ ws))) (np : S ≠ p) (hw : ∀ v ∈ ws, NbV p H' v) (hm : n + ws.length = m) : NbL p H' S (zs ++ ws) m :=
  ⟨hS, np, by rw [List.length_append, b.2.2.1]; exact hm, fun v hv => (List.mem_append.mp hv).elim (fun z => (b.2.2.2 v z).kp k) (hw v)⟩
theorem nbv_len {H : Hp} {p l c : Addr} {ns : List Int} (h : Pen H p l ns) {xs : List V} (n : H c = none) (hl : xs.length ≠ 2) : NbV p (upd H c (.tup xs)) (.ref c) :=
  fun H' k => .inr (.inl ⟨c, xs, rfl, k _ _ (h.nw n) upd_same, hl⟩)
theorem nbv_two {H : Hp} {p l c : Addr} {ns : List Int} (h : Pen H p l ns) {x y : V} (n : H c = none) (hx : ∀ H', Kp p (upd H c (.tup [x, y])) H' → Sd H' x) (hy : ∀ H', Kp p (upd H c (.tup [x, y])) H' → Sd H' y) (hb : (inS x && inS y) = false) : NbV p (upd H c (.tup [x, y])) (.ref c) :=
  fun H' k => .inr (.inr ⟨c, x, y, rfl, k _ _ (h.nw n) upd_same, hx H' k, hy H' k, hb⟩)
theorem nbv_lst {H : Hp} {p l c : Addr} {ns : List Int} (h : Pen H p l ns) {xs : List V} (n : H c = none) : NbV p (upd H c (.lst xs)) (.ref c) :=
  fun H' k => .inl (.lst (k _ _ (h.nw n) upd_same))
theorem nbv_dK {H : Hp} {p l c : Addr} {ns : List Int} (h : Pen H p l ns) {xs : List (Key × V)} (n : H c = none) : NbV p (upd H c (.dK xs)) (.ref c) :=
  fun H' k => .inl (.dK (k _ _ (h.nw n) upd_same))
def sp_law_no_box : Sp := fun vs H Q _ => ∃ (p l : Addr) (ns : List Int), vs = [.ref p] ∧ Pen H p l ns ∧ ∀ H' v, Kp p H H' → Pen H' p l ns → NoBx H' v → Q v H'
theorem ok_law_no_box (T : Txt K mg f fd) : FnOk P w K mg base CX0 2 (f 43) (fd 43) ["_law_pen_here"] sp_law_no_box := by
  refine T.F43.ok sc_law_no_box (fun vs H Q E h => ?_) (fun cdv A outer s H vs Q E hr h => ?_)
  · obtain ⟨p, l, ns, rfl, _⟩ := h
    rfl
  · obtain ⟨p, l, ns, rfl, hP, q⟩ := h
    refine ⟨_, (pss_cons (ps_set (i := 1) sc_law_no_box.nd rfl (Or.inl rfl) (pe_call (ok_law_take T) (hr.mono (by decide)) (by rfl) T.g36 T.F36.kp T.b36 .nil pass0 (pa_cons (pv 0) (pa_cons pe_int pa_nil))))
      (Evl.pss_cut (ps_set (i := 2) sc_law_no_box.nd rfl (Or.inl rfl) (pe_lst (pa_cons pe_non (pa_cons (pe_tup (pa_cons (pv 1) pa_nil)) (pa_cons (pe_tup (pa_cons (pv 1) (pa_cons (pv 1) (pa_cons (pv 1) pa_nil)))) (pa_cons (pe_lst (pa_cons (pv 1) (pa_cons (pv 1) pa_nil))) (pa_cons (pe_tup (pa_cons (pv 1) (pa_cons pe_int pa_nil))) (pa_cons (pe_tup (pa_cons pe_int (pa_cons (pv 1) pa_nil))) pa_nil))))))))
      (Evl.pss_cut (ps_set (i := 2) sc_law_no_box.nd rfl (Or.inl rfl) (pe_op op_cat (pv 2) (pe_lst (pa_cons (pe_tup (pa_cons (pe_un un_neg pe_int) (pa_cons (pv 1) pa_nil))) (pa_cons (pe_tup (pa_cons (pv 1) (pa_cons (pe_un un_neg pe_int) pa_nil))) (pa_cons pe_str (pa_cons (pv 1) (pa_cons (pe_tup (pa_cons pe_bl (pa_cons (pv 1) pa_nil))) (pa_cons (pe_tup (pa_cons (pv 1) (pa_cons pe_bl pa_nil))) pa_nil)))))))))
      (Evl.pss_cut (ps_set (i := 2) sc_law_no_box.nd rfl (Or.inl rfl) (pe_op op_cat (pv 2) (pe_lst (pa_cons (pe_tup (pa_cons (pv 1) (pa_cons pe_non pa_nil))) (pa_cons (pe_tup (pa_cons pe_str (pa_cons (pv 1) pa_nil))) (pa_cons (pe_tup pa_nil) (pa_cons pe_dnewK (pa_cons (pe_tup (pa_cons (pv 1) (pa_cons (pe_tup (pa_cons (pv 1) pa_nil)) pa_nil))) (pa_cons (pe_tup (pa_cons (pe_op op_pow pe_int pe_int) (pa_cons (pv 1) pa_nil))) pa_nil)))))))))
      (pss_one (ps_ret (pe_ix (r := rIxL K) ix_list (pv 2) (pe_call (ok_law_take T) (hr.mono (by decide)) (by rfl) T.g36 T.F36.kp T.b36 .nil pass0 (pa_cons (pv 0) (pa_cons pe_int pa_nil))) (fun _ _ => rfl)))))))), ?_⟩
    refine ⟨.ref p, rfl, p, l, ns, 21, rfl, hP, by decide, by decide, fun H1 d k1 P1 d0 d1 => ?_⟩
    have sdI : ∀ {G : Hp} (i : Int), Sd G (.int i) := fun i => .inl ⟨i, rfl⟩
    refine ⟨fun σ H2 => ∃ Z zs, σ = [some (.ref p), some (.int d), some (.ref Z)] ∧ Kp p H H2 ∧ Pen H2 p l ns ∧ NbL p H2 Z zs 6, ?_, ?_⟩
    · refine ⟨_, rfl, small_line (by show 1 ≤ 100000; omega), fun c1 n1 => ?_⟩
      have b1 := nbv_len P1 n1 (xs := [V.int d]) (by show 1 ≠ 2; decide)
      have t1 := same_new (o := .tup [V.int d]) n1
      have Q1 := P1.same t1
      refine ⟨_, rfl, _, rfl, _, rfl, small_line (by show 3 ≤ 100000; omega), fun c2 n2 => ?_⟩
      have b2 := nbv_len Q1 n2 (xs := [V.int d, V.int d, V.int d]) (by show 3 ≠ 2; decide)
      have t2 := same_new (o := .tup [V.int d, V.int d, V.int d]) n2
      have Q2 := Q1.same t2
      refine ⟨_, rfl, _, rfl, small_line (by show 2 ≤ 100000; omega), fun c3 n3 => ?_⟩
      have b3 := nbv_lst Q2 n3 (xs := [V.int d, V.int d])
      have t3 := same_new (o := .lst [V.int d, V.int d]) n3
      have Q3 := Q2.same t3
      refine ⟨_, rfl, small_line (by show 2 ≤ 100000; omega), fun c4 n4 => ?_⟩
      have b4 := nbv_two Q3 n4 (x := V.int d) (y := V.int 21) (fun _ _ => sdI _) (fun _ _ => sdI _) (by show (inS (.int d) && false) = false; exact Bool.and_false _)
      have t4 := same_new (o := .tup [V.int d, V.int 21]) n4
      have Q4 := Q3.same t4
      refine ⟨_, rfl, small_line (by show 2 ≤ 100000; omega), fun c5 n5 => ?_⟩
      have b5 := nbv_two Q4 n5 (x := V.int 21) (y := V.int d) (fun _ _ => sdI _) (fun _ _ => sdI _) rfl
      have t5 := same_new (o := .tup [V.int 21, V.int d]) n5
      have Q5 := Q4.same t5
      refine ⟨small_line (by show 6 ≤ 100000; omega), fun Z n6 => ?_⟩
      have t6 := same_new (o := .lst [V.non, V.ref c1, V.ref c2, V.ref c3, V.ref c4, V.ref c5]) n6
      refine ⟨Z, _, rfl, k1.trans (Kp.of (((((t1.trans t2).trans t3).trans t4).trans t5).trans t6)), Q5.same t6, upd_same, Q5.nw n6, rfl, fun v hv => ?_⟩
      simp only [List.mem_cons, List.not_mem_nil, or_false] at hv
      rcases hv with rfl | rfl | rfl | rfl | rfl | rfl
      · exact fun H' _ => .inl .non
      · exact b1.kp (Kp.of ((((t2.trans t3).trans t4).trans t5).trans t6))
      · exact b2.kp (Kp.of (((t3.trans t4).trans t5).trans t6))
      · exact b3.kp (Kp.of ((t4.trans t5).trans t6))
      · exact b4.kp (Kp.of (t5.trans t6))
      · exact b5.kp (Kp.of t6)
    rintro _ H2 ⟨Z, zs, rfl, k2, P2, B⟩
    refine ⟨fun σ H3 => ∃ Z zs, σ = [some (.ref p), some (.int d), some (.ref Z)] ∧ Kp p H H3 ∧ Pen H3 p l ns ∧ NbL p H3 Z zs 12, ?_, ?_⟩
    · refine ⟨.ref Z, rfl, _, rfl, _, rfl, small_line (by show 2 ≤ 100000; omega), fun c1 n1 => ?_⟩
      have b1 := nbv_two P2 n1 (x := V.int (-1)) (y := V.int d) (fun _ _ => sdI _) (fun _ _ => sdI _) rfl
      have t1 := same_new (o := .tup [V.int (-1), V.int d]) n1
      have Q1 := P2.same t1
      refine ⟨_, rfl, _, rfl, small_line (by show 2 ≤ 100000; omega), fun c2 n2 => ?_⟩
      have b2 := nbv_two Q1 n2 (x := V.int d) (y := V.int (-1)) (fun _ _ => sdI _) (fun _ _ => sdI _) (by show (inS (.int d) && false) = false; exact Bool.and_false _)
      have t2 := same_new (o := .tup [V.int d, V.int (-1)]) n2
      have Q2 := Q1.same t2
      refine ⟨_, rfl, _, rfl, small_line (by show 2 ≤ 100000; omega), fun c3 n3 => ?_⟩
      have b3 := nbv_two Q2 n3 (x := V.bl true) (y := V.int d) (fun _ _ => .inr (.bl _)) (fun _ _ => sdI _) rfl
      have t3 := same_new (o := .tup [V.bl true, V.int d]) n3
      have Q3 := Q2.same t3
      refine ⟨_, rfl, small_line (by show 2 ≤ 100000; omega), fun c4 n4 => ?_⟩
      have b4 := nbv_two Q3 n4 (x := V.int d) (y := V.bl false) (fun _ _ => sdI _) (fun _ _ => .inr (.bl _)) (by show (inS (.int d) && false) = false; exact Bool.and_false _)
      have t4 := same_new (o := .tup [V.int d, V.bl false]) n4
      have Q4 := Q3.same t4
      refine ⟨small_line (by show 6 ≤ 100000; omega), fun W n5 => ?_⟩
      have t5 := same_new (o := .lst [V.ref c1, V.ref c2, V.str "3x3", V.int d, V.ref c3, V.ref c4]) n5
      have Q5 := Q4.same t5
      refine ⟨Z, W, _, _, rfl, rfl, ((((t1.trans t2).trans t3).trans t4).trans t5) _ _ B.1, upd_same, small_line (by rw [B.2.2.1]; show 6 + 6 ≤ 100000; omega), fun S nS => ?_⟩
      have t6 := same_new (o := .lst (zs ++ [V.ref c1, V.ref c2, V.str "3x3", V.int d, V.ref c3, V.ref c4])) nS
      refine ⟨S, _, rfl, k2.trans (Kp.of (((((t1.trans t2).trans t3).trans t4).trans t5).trans t6)), Q5.same t6, B.add (Kp.of (((((t1.trans t2).trans t3).trans t4).trans t5).trans t6)) upd_same (Q5.nw nS) (fun v hv => ?_) rfl⟩
      simp only [List.mem_cons, List.not_mem_nil, or_false] at hv
      rcases hv with rfl | rfl | rfl | rfl | rfl | rfl
      · exact b1.kp (Kp.of ((((t2.trans t3).trans t4).trans t5).trans t6))
      · exact b2.kp (Kp.of (((t3.trans t4).trans t5).trans t6))
      · exact fun H' _ => .inl (.str _)
      · exact fun H' _ => .inl (.int _)
      · exact b3.kp (Kp.of ((t4.trans t5).trans t6))
      · exact b4.kp (Kp.of (t5.trans t6))
    clear B
    rintro _ H3 ⟨Z, zs, rfl, k3, P3, B⟩
    refine ⟨fun σ H4 => ∃ Z zs, σ = [some (.ref p), some (.int d), some (.ref Z)] ∧ Kp p H H4 ∧ Pen H4 p l ns ∧ NbL p H4 Z zs 18, ?_, ?_⟩
    · refine ⟨.ref Z, rfl, _, rfl, small_line (by show 2 ≤ 100000; omega), fun c1 n1 => ?_⟩
      have b1 := nbv_two P3 n1 (x := V.int d) (y := V.non) (fun _ _ => sdI _) (fun _ _ => .inr .non) (by show (inS (.int d) && false) = false; exact Bool.and_false _)
      have t1 := same_new (o := .tup [V.int d, V.non]) n1
      have Q1 := P3.same t1
      refine ⟨_, rfl, small_line (by show 2 ≤ 100000; omega), fun c2 n2 => ?_⟩
      have b2 := nbv_two Q1 n2 (x := V.str "3") (y := V.int d) (fun _ _ => .inr (.str _)) (fun _ _ => sdI _) rfl
      have t2 := same_new (o := .tup [V.str "3", V.int d]) n2
      have Q2 := Q1.same t2
      refine ⟨Nat.zero_le _, fun c3 n3 => ?_⟩
      have b3 := nbv_len Q2 n3 (xs := []) (by decide)
      have t3 := same_new (o := .tup []) n3
      have Q3 := Q2.same t3
      refine fun c4 n4 => ?_
      have b4 := nbv_dK Q3 n4 (xs := [])
      have t4 := same_new (o := .dK []) n4
      have Q4 := Q3.same t4
      refine ⟨_, rfl, _, rfl, small_line (by show 1 ≤ 100000; omega), fun c5 n5 => ?_⟩
      have t5 := same_new (o := .tup [V.int d]) n5
      have Q5 := Q4.same t5
      refine ⟨small_line (by show 2 ≤ 100000; omega), fun c6 n6 => ?_⟩
      have b6 := nbv_two Q5 n6 (x := V.int d) (y := V.ref c5) (fun _ _ => sdI _) (fun _ k => .inr (.tup (k _ _ (Q4.nw n5) (same_new n6 _ _ upd_same)))) (by show (inS (.int d) && false) = false; exact Bool.and_false _)
      have t6 := same_new (o := .tup [V.int d, V.ref c5]) n6
      have Q6 := Q5.same t6
      refine ⟨_, _, rfl, rfl, ⟨by decide, by decide, by decide⟩, _, rfl, small_line (by show 2 ≤ 100000; omega), fun c7 n7 => ?_⟩
      have b7 := nbv_two Q6 n7 (x := V.int (10 ^ (29 : Int).toNat)) (y := V.int d) (fun _ _ => sdI _) (fun _ _ => sdI _) (by show ((decide ((0 : Int) ≤ 10 ^ (29 : Int).toNat) && decide ((10 : Int) ^ (29 : Int).toNat ≤ 20)) && _) = false; rw [show decide ((10 : Int) ^ (29 : Int).toNat ≤ 20) = false from by decide, Bool.and_false, Bool.false_and])
      have t7 := same_new (o := .tup [V.int (10 ^ (29 : Int).toNat), V.int d]) n7
      have Q7 := Q6.same t7
      refine ⟨small_line (by show 6 ≤ 100000; omega), fun W n8 => ?_⟩
      have t8 := same_new (o := .lst [V.ref c1, V.ref c2, V.ref c3, V.ref c4, V.ref c6, V.ref c7]) n8
      have Q8 := Q7.same t8
      refine ⟨Z, W, _, _, rfl, rfl, (((((((t1.trans t2).trans t3).trans t4).trans t5).trans t6).trans t7).trans t8) _ _ B.1, upd_same, small_line (by rw [B.2.2.1]; show 12 + 6 ≤ 100000; omega), fun S nS => ?_⟩
      have t9 := same_new (o := .lst (zs ++ [V.ref c1, V.ref c2, V.ref c3, V.ref c4, V.ref c6, V.ref c7])) nS
      refine ⟨S, _, rfl, k3.trans (Kp.of ((((((((t1.trans t2).trans t3).trans t4).trans t5).trans t6).trans t7).trans t8).trans t9)), Q8.same t9, B.add (Kp.of ((((((((t1.trans t2).trans t3).trans t4).trans t5).trans t6).trans t7).trans t8).trans t9)) upd_same (Q8.nw nS) (fun v hv => ?_) rfl⟩
      simp only [List.mem_cons, List.not_mem_nil, or_false] at hv
      rcases hv with rfl | rfl | rfl | rfl | rfl | rfl
      · exact b1.kp (Kp.of (((((((t2.trans t3).trans t4).trans t5).trans t6).trans t7).trans t8).trans t9))
      · exact b2.kp (Kp.of ((((((t3.trans t4).trans t5).trans t6).trans t7).trans t8).trans t9))
      · exact b3.kp (Kp.of (((((t4.trans t5).trans t6).trans t7).trans t8).trans t9))
      · exact b4.kp (Kp.of ((((t5.trans t6).trans t7).trans t8).trans t9))
      · exact b6.kp (Kp.of ((t7.trans t8).trans t9))
      · exact b7.kp (Kp.of (t8.trans t9))
    clear B
    rintro _ H4 ⟨Z, zs, rfl, k4, P4, B⟩
    refine ⟨.ref Z, rfl, .ref p, rfl, p, l, ns, 18, rfl, P4, by decide, by decide, fun H5 e k5 P5 e0 e1 => ?_⟩
    have hd : e.toNat < zs.length := by rw [B.2.2.1]; omega
    exact ⟨Z, _, e, zs[e.toNat], rfl, rfl, SqL.of (k5 Z _ B.2.1 B.1), at_get e0 (List.getElem?_eq_getElem hd), q _ _ (k4.trans k5) P5 (B.2.2.2 _ (List.getElem_mem hd) _ k5)⟩
/-! ### _law_plain_right -/
abbrev dS (xs : List Int) : PyData := .list (xs.map PyData.int)
theorem sm_rows {n : Nat} (h : n ≤ 21) (p : Nat → Bool) : Sm 400 1 (dS (((List.range n).filter p).map fun i : Nat => (i : Int))) := by
  refine (Sm.list (sm_ints (B := 21) (fun x m => ?_) (by decide))).more ?_ (Nat.le_refl _)
  · obtain ⟨k, hk, rfl⟩ := List.mem_map.mp m
    have := List.mem_range.mp (List.mem_filter.mp hk).1
    omega
  · rw [List.length_map, List.length_map]
    have := List.length_filter_le p (List.range n)
    rw [List.length_range] at this
    omega
theorem rows_len {n : Nat} (p : Nat → Bool) : (((List.range n).filter p).map fun i : Nat => (i : Int)).length ≤ n := by
  rw [List.length_map]
  have := List.length_filter_le p (List.range n)
  rw [List.length_range] at this
  exact this
theorem put_len (xs : List Int) (i : Nat) : (putL xs i).length ≤ xs.length + 1 := by
  unfold putL
  split
  · rw [List.length_append]
    show xs.length + 1 ≤ _
    omega
  · rw [List.length_append, List.length_append, List.length_take, List.length_drop]
    show min i xs.length + 1 + (xs.length - (i + 1)) ≤ _
    omega
theorem left_len (xs : List Int) (i : Nat) : (left xs i).length ≤ xs.length := by
  unfold left
  split
  · rw [List.length_take]
    omega
  · rw [List.length_set]
    omega
theorem dp_two {H : Hp} {t a b : Addr} {xs ys : List Int} (h : H t = some (.tup [.ref a, .ref b])) (ha : H a = some (.lst (xs.map V.int))) (hb : H b = some (.lst (ys.map V.int))) : Dp K H (.ref t) (.tuple [dS xs, dS ys]) :=
  .tup (SqT.of h) (.cons (dp_lst (SqL.of ha)) (.cons (dp_lst (SqL.of hb)) .nil))
def sp_law_plain_right : Sp := fun vs H Q _ => ∃ (a : Addr) (xs : List Int), vs = [.ref a] ∧ H a = some (.tup (xs.map V.int)) ∧ Sh xs ∧ ∀ H', Same H H' → Q (.bl true) H'
theorem ok_law_plain_right (T : Txt K mg f fd) : FnG P w K mg base 3 (f 44) (fd 44) ["_law_share_here"] sp_law_plain_right := by
  refine okG T.F44 sc_law_plain_right (fun vs H Q E h => ?_) (fun cdv A outer s H vs Q E hA hr h => ?_)
  · obtain ⟨a, xs, rfl, _⟩ := h
    rfl
  · obtain ⟨a, xs, rfl, ha, hx, q⟩ := h
    have hn := hx.n
    refine ⟨_, (Evl.pss_cut (ps_setLc (i := 1) (own := [("_law_row", 5)]) (g := (gName 5)) rfl sc_law_plain_right.nd rfl rfl (sw_true rfl rfl rfl (by decide +kernel)) (pi_range1 (by rfl) T.m_range (pa_cons (pe_op op_add (pe_callB (r := rLenS K) len_seq (by rfl) T.m_len bt_len (pa_cons (pv 0) pa_nil)) pe_int) pa_nil)) (blkOk_by (N := N_law_plain_right) (sc := defScope st_law_plain_right) (by decide +kernel)) (fun _ _ _ _ _ => (pg_name (i := 5) sc_law_plain_right.nd rfl (Or.inl rfl))) (fun _ _ _ _ _ => pts_one (pt_val (pe_call (ok_law_is T) (hr.mono (by decide)) (by rfl) T.g38 T.F38.kp T.b38 .nil pass0 (pa_cons (pe_call (ok_law_comes T) (hr.mono (by decide)) (by rfl) T.g39 T.F39.kp T.b39 .nil pass0 (pa_cons (pv 0) (pa_cons (pv 5) pa_nil))) (pa_cons pe_int (pa_cons pe_int pa_nil)))))) (fun _ _ _ _ _ => (pv 5)))
      (Evl.pss_cut (ps_setLc (i := 2) (own := [("_law_row", 5)]) (g := (gName 5)) rfl sc_law_plain_right.nd rfl rfl (sw_true rfl rfl rfl (by decide +kernel)) (pi_range1 (by rfl) T.m_range (pa_cons (pe_callB (r := rLenS K) len_seq (by rfl) T.m_len bt_len (pa_cons (pv 0) pa_nil)) pa_nil)) (blkOk_by (N := N_law_plain_right) (sc := defScope st_law_plain_right) (by decide +kernel)) (fun _ _ _ _ _ => (pg_name (i := 5) sc_law_plain_right.nd rfl (Or.inl rfl))) (fun _ _ _ _ _ => pts_one (pt_val (pe_call (ok_law_is T) (hr.mono (by decide)) (by rfl) T.g38 T.F38.kp T.b38 .nil pass0 (pa_cons (pe_call (ok_law_goes T) (hr.mono (by decide)) (by rfl) T.g40 T.F40.kp T.b40 .nil pass0 (pa_cons (pv 0) (pa_cons (pv 5) pa_nil))) (pa_cons pe_int (pa_cons pe_int pa_nil)))))) (fun _ _ _ _ _ => (pv 5)))
      (pss_cons (ps_for PassesOwn.never rfl (pi_range1 (by rfl) T.m_range (pa_cons pe_int pa_nil)) (pg_name (i := 3) sc_law_plain_right.nd rfl (Or.inl rfl)) (pss_cons (ps_set (i := 4) sc_law_plain_right.nd rfl (Or.inl rfl) (pe_tup (pa_cons (pe_call (ok_in_rows T) (hr.mono (by decide)) (by rfl) T.g30 T.F30.kp T.b30 .nil pass0 (pa_cons (pv 0) pa_nil)) (pa_cons (pe_call (ok_out_rows T) (hr.mono (by decide)) (by rfl) T.g31 T.F31.kp T.b31 .nil pass0 (pa_cons (pv 0) pa_nil)) pa_nil))))
      (pss_cons (ps_if (pt_cmpR op_ne (pe_callB (r := rShw K) (call_shw hA hr.units) (by rfl) T.m_repr bt_repr (pa_cons (pv 4) pa_nil)) (pe_callB (r := rShw K) (call_shw hA hr.units) (by rfl) T.m_repr bt_repr (pa_cons (pe_tup (pa_cons (pv 1) (pa_cons (pv 2) pa_nil))) pa_nil)) (nomark _)) (pss_one (ps_ret pe_bl)) pss_nil)
      (pss_cons (ps_expr (pe_bm PySem.F.plainAttrs_list PySem.F.slot_list_append PySem.F.type_list_append mt_append (pe_ix (r := rIxT K) ix_tup (pv 4) pe_int (fun _ _ => rfl)) (pa_cons pe_int pa_nil)))
      (pss_one (ps_expr (pe_bm PySem.F.plainAttrs_list PySem.F.slot_list_insert PySem.F.type_list_insert mt_insert (pe_ix (r := rIxT K) ix_tup (pv 4) pe_int (fun _ _ => rfl)) (pa_cons pe_int (pa_cons (pe_un un_neg pe_int) pa_nil)))))))))
      (pss_one (ps_ret pe_bl))))), ?_⟩
    refine ⟨fun σ H1 => ∃ C, σ = [some (.ref a), some (.ref C), none, none, none, none] ∧ Same H H1 ∧ H1 C = some (.lst ((room 20 20 xs).map V.int)), ?_, ?_⟩
    · refine ⟨.ref a, rfl, a, _, rfl, .inr (SqT.of ha), _, _, rfl, rfl, (xs.length : Int) + 1, by rw [List.length_map], by omega, by omega, fun D nD => ?_⟩
      have hcnt : ((xs.length : Int) + 1).toNat = xs.length + 1 := by omega
      rw [hcnt]
      refine lc_it (walk_range (lo := 0) (n := xs.length + 1)) (Grow H D (fun i => (((List.range i).filter (pRoom 20 20 xs)).map fun i : Nat => (i : Int)).map V.int)) (Grow.start nD rfl) (fun _ _ _ _ => trivial) ?_ ?_
      · rintro i v _ H1 hi g ⟨rfl, hv⟩
        obtain rfl : v = V.int (i : Int) := hv.trans (congrArg V.int (Int.zero_add _))
        have hlen := rows_len (n := i) (pRoom 20 20 xs)
        refine ⟨rfl, .ref a, rfl, _, rfl, a, xs, i, rfl, g.1 _ _ ha, by omega, by omega, fun H2 L s2 hL => ?_⟩
        refine ⟨L, putL xs i, 20, 20, rfl, hL, by have := put_len xs i; omega, fun hs H3 s3 => ?_, fun hs H3 s3 => ?_⟩
        · have hp := (room_iff hx (by omega)).mpr (shw_sh.mp hs)
          refine ⟨_, rfl, iteT ⟨_, rfl, _, (s2.trans s3) _ _ g.2, small_lt (by rw [List.length_map]; omega), g.put nD (s2.trans s3) ?_⟩⟩
          try dsimp only
          rw [fr_step, if_pos hp, List.map_append]
          rfl
        · have hp : ¬ pRoom 20 20 xs i = true := fun z => hs (shw_sh.mpr ((room_iff hx (by omega)).mp z))
          refine ⟨_, rfl, iteF (g.skip (s2.trans s3) ?_)⟩
          try dsimp only
          rw [fr_step, if_neg hp, List.append_nil]
      · intro H1 g
        exact ⟨D, rfl, g.1, g.2⟩
    rintro _ H1 ⟨C, rfl, s1, hC⟩
    refine ⟨fun σ H2 => ∃ G, σ = [some (.ref a), some (.ref C), some (.ref G), none, none, none] ∧ Same H1 H2 ∧ H2 G = some (.lst ((outL xs).map V.int)), ?_, ?_⟩
    · have ha1 := s1 _ _ ha
      refine ⟨.ref a, rfl, a, _, rfl, .inr (SqT.of ha1), (xs.length : Int), by rw [List.length_map], by omega, by omega, fun D nD => ?_⟩
      rw [Int.toNat_natCast]
      refine lc_it (walk_range (lo := 0) (n := xs.length)) (Grow H1 D (fun i => (((List.range i).filter (pOut xs)).map fun i : Nat => (i : Int)).map V.int)) (Grow.start nD rfl) (fun _ _ _ _ => trivial) ?_ ?_
      · rintro i v _ H2 hi g ⟨rfl, hv⟩
        obtain rfl : v = V.int (i : Int) := hv.trans (congrArg V.int (Int.zero_add _))
        have hlen := rows_len (n := i) (pOut xs)
        refine ⟨rfl, .ref a, rfl, _, rfl, a, xs, i, rfl, g.1 _ _ ha1, by omega, hi, fun H3 L s3 hL => ?_⟩
        refine ⟨L, left xs i, 20, 20, rfl, hL, by have := left_len xs i; omega, fun hs H4 s4 => ?_, fun hs H4 s4 => ?_⟩
        · have hp := (out_iff hx hi).mpr (shw_sh.mp hs)
          refine ⟨_, rfl, iteT ⟨_, rfl, _, (s3.trans s4) _ _ g.2, small_lt (by rw [List.length_map]; omega), g.put nD (s3.trans s4) ?_⟩⟩
          try dsimp only
          rw [fr_step, if_pos hp, List.map_append]
          rfl
        · have hp : ¬ pOut xs i = true := fun z => hs (shw_sh.mpr ((out_iff hx hi).mp z))
          refine ⟨_, rfl, iteF (g.skip (s3.trans s4) ?_)⟩
          try dsimp only
          rw [fr_step, if_neg hp, List.append_nil]
      · intro H2 g
        exact ⟨D, rfl, g.1, g.2⟩
    rintro _ H2 ⟨G, rfl, s2, hG⟩
    have s02 := s1.trans s2
    have big : Sm (400 * 2 + 2 * 2 + 3) 2 (.tuple [dS (room 20 20 xs), dS (outL xs)]) := by
      refine Sm.tuple (ds := [dS (room 20 20 xs), dS (outL xs)]) (n := 400) (k := 1) fun d hd => ?_
      simp only [List.mem_cons, List.not_mem_nil, or_false] at hd
      rcases hd with rfl | rfl
      · exact sm_rows (by omega) _
      · exact sm_rows (by omega) _
    have b3 : (PyData.tuple [dS (room 20 20 xs), dS (outL xs)]).depth ≤ 60 := Nat.le_trans big.c (by decide)
    have b4 : (PyData.tuple [dS (room 20 20 xs), dS (outL xs)]).shown.length ≤ sizeLine := Nat.le_trans big.d (small_line (by decide))
    refine ⟨2, rfl, by decide, by decide, ?_⟩
    refine for_range (fun i σ H3 => ∃ o3 o4 : Option V, σ = [some (.ref a), some (.ref C), some (.ref G), o3, o4, none] ∧ Same H2 H3) ⟨none, none, rfl, Same.refl _⟩ ?_ ?_
    · rintro i _ H3 hi ⟨o3, o4, rfl, s3⟩
      have s03 := s02.trans s3
      refine ⟨.ref a, rfl, a, xs, rfl, s03 _ _ ha, by omega, fun H4 D s4 nD hD => ?_⟩
      refine ⟨.ref a, rfl, a, xs, rfl, s4 _ _ (s03 _ _ ha), by omega, fun H5 F s5 nF hF => ?_⟩
      refine ⟨small_line (by show 2 ≤ 100000; omega), fun t nt => ?_⟩
      have s6 := same_new (o := .tup [V.ref D, V.ref F]) nt
      have ht : (upd H5 t (.tup [V.ref D, V.ref F])) t = some (.tup [V.ref D, V.ref F]) := upd_same
      have hD6 := s6 _ _ (s5 _ _ hD)
      have hF6 := s6 _ _ hF
      have s36 := (s4.trans s5).trans s6
      generalize upd H5 t (.tup [V.ref D, V.ref F]) = H6 at ht hD6 hF6 s36
      clear s6 nt
      refine ⟨.ref t, rfl, .ref t, _, rfl, dp_two ht hD6 hF6, big.a, big.b, b3, b4, ?_⟩
      refine ⟨.ref C, rfl, .ref G, rfl, small_line (by show 2 ≤ 100000; omega), fun u nu => ?_⟩
      have s7 := same_new (o := .tup [V.ref C, V.ref G]) nu
      have s37 := s36.trans s7
      refine ⟨.ref u, _, rfl, dp_two upd_same (s37 _ _ (s3 _ _ (s2 _ _ hC))) (s37 _ _ (s3 _ _ hG)), big.a, big.b, b3, b4, rfl, _, rfl, ?_⟩
      rw [decide_eq_true rfl]
      have ht7 := s7 _ _ ht
      have hD7 := s7 _ _ hD6
      have hF7 := s7 _ _ hF6
      generalize upd H6 u (.tup [V.ref C, V.ref G]) = H7 at ht7 hD7 hF7 s37
      refine iteF ⟨.ref t, rfl, t, _, 0, .ref D, rfl, rfl, SqT.of ht7, rfl, .inl ⟨rfl, _, SqL.of hD7⟩, D, _, .int 0, rfl, rfl, hD7, ?_, ?_⟩
      · exact small_lt (by rw [List.length_map]; have : (room 20 20 xs).length ≤ xs.length + 1 := rows_len _; omega)
      have hDF : F ≠ D := (ne_of_none hD nF).symm
      have hDt : t ≠ D := ne_of ht7 hD7 (by intro z; cases z)
      have hF8 : (upd H7 D (.lst ((room 20 20 xs).map V.int ++ [V.int 0]))) F = some (.lst ((outL xs).map V.int)) := by
        rw [upd_ne hDF]
        exact hF7
      have ht8 : (upd H7 D (.lst ((room 20 20 xs).map V.int ++ [V.int 0]))) t = some (.tup [V.ref D, V.ref F]) := by
        rw [upd_ne hDt]
        exact ht7
      refine ⟨.ref t, rfl, t, _, 1, .ref F, rfl, rfl, SqT.of ht8, rfl, .inl ⟨rfl, _, SqL.of hF8⟩, _, rfl, F, _, 0, .int (-1), rfl, rfl, hF8, ?_, by decide, by decide, _, _, rfl, fun b o e => ?_⟩
      · exact small_lt (by rw [List.length_map]; have : (outL xs).length ≤ xs.length := rows_len _; omega)
      · have e3 := s3 _ _ e
        have nF3 : H3 F = none := by
          cases z : H3 F with
          | none => rfl
          | some o => rw [s4 _ _ z] at nF; cases nF
        rw [upd_ne (ne_of_none e3 nF3), upd_ne (ne_of_none e3 nD)]
        exact s37 _ _ e3
    · rintro _ H3 ⟨o3, o4, rfl, s3⟩
      exact q _ (s02.trans s3)
/-! ### law -/
def sp_law (K : PySem.W.Frag) : Sp := fun vs H Q _ => ∃ (a : Addr) (ns : List Int), vs = [.ref a] ∧ SqL K H a (ns.map V.int) ∧ ns.length ≤ 63 ∧ ∀ H', Q (.bl true) H'
theorem fitB_iff {h w : Int} {xs : List Int} (hx : Sh xs) : fitB h w xs = true ↔ Shw h w xs := by
  rw [fits_iff hx]
  unfold fitB
  rw [Bool.and_eq_true, Bool.or_eq_true, decide_eq_true_eq, decide_eq_true_eq, List.isEmpty_iff]
theorem oklaw {fa : Addr} {fda : FuncData} (T : Txt K mg f fd) (F : Fun K "law" "law" stlaw fa fda) : FnG P w K mg base 9 fa fda ["_law_script"] (sp_law K) := by
  refine okG F sclaw (fun vs H Q E h => ?_) (fun cdv A outer s H vs Q E hA hr h => ?_)
  · obtain ⟨a, ns, rfl, _⟩ := h
    rfl
  · obtain ⟨a, ns, rfl, hS, hn, q⟩ := h
    refine ⟨_, (pss_cons (ps_set (i := 1) sclaw.nd rfl (Or.inl rfl) (pe_call (ok_law_pen T) (hr.mono (by decide)) (by rfl) T.g35 T.F35.kp T.b35 .nil pass0 (pa_cons (pv 0) pa_nil)))
      (pss_cons (ps_for PassesOwn.never rfl (pi_range1 (by rfl) T.m_range (pa_cons pe_int pa_nil)) (pg_name (i := 2) sclaw.nd rfl (Or.inl rfl)) (Evl.pss_cut (ps_set (i := 3) sclaw.nd rfl (Or.inr rfl) (pe_call (ok_law_share T) (hr.mono (by decide)) (by rfl) T.g37 T.F37.kp T.b37 .nil pass0 (pa_cons (pv 1) (pa_cons (pe_ix (r := rIxL K) ix_list (pe_lst (pa_cons pe_int (pa_cons pe_int pa_nil))) (pe_callTy call_int1 (by rfl) T.m_int bt_int (pa_cons (pe_cmpR op_eq (pe_call (ok_law_take T) (hr.mono (by decide)) (by rfl) T.g36 T.F36.kp T.b36 .nil pass0 (pa_cons (pv 1) (pa_cons pe_int pa_nil))) pe_int (nomark _)) pa_nil)) (fun _ _ => rfl)) pa_nil))))
      (Evl.pss_cut (ps_if (pt_not (pt_val (pe_callG (ok_law_plain_right T) hA (hr.mono (by decide)) (by rfl) T.g44 T.F44.kp T.b44 (pa_cons (pv 3) pa_nil)))) (pss_one (ps_ret pe_bl)) pss_nil)
      (Evl.pss_cut (ps_for PassesOwn.never rfl (pi_list (pe_call (ok_law_boxes T) (hr.mono (by decide)) (by rfl) T.g42 T.F42.kp T.b42 .nil pass0 (pa_cons (pv 1) (pa_cons (pv 3) pa_nil)))) (pg_tup rfl (pgs_cons (pg_name (i := 4) sclaw.nd rfl (Or.inr rfl)) (pgs_cons (pg_name (i := 5) sclaw.nd rfl (Or.inr rfl)) pgs_nil))) (Evl.pss_cut (ps_set (i := 6) sclaw.nd rfl (Or.inl rfl) pe_str)
      (Evl.pss_cut (ps_if (pt_val (pe_call (ok_law_is T) (hr.mono (by decide)) (by rfl) T.g38 T.F38.kp T.b38 .nil pass0 (pa_cons (pe_callTy (r := rLstO K) lst_of (by rfl) T.m_list bt_list (pa_cons (pv 3) pa_nil)) (pa_cons (pv 4) (pa_cons (pv 5) pa_nil))))) (pss_one (ps_setLc (i := 6) (own := [("_law_row", 9)]) (g := (gName 9)) rfl sclaw.nd rfl rfl (sw_true rfl rfl rfl (by decide +kernel)) (pi_range1 (by rfl) T.m_range (pa_cons (pe_op op_add (pe_callB (r := rLenS K) len_seq (by rfl) T.m_len bt_len (pa_cons (pv 3) pa_nil)) pe_int) pa_nil)) (blkOk_by (N := Nlaw) (sc := defScope stlaw) (by decide +kernel)) (fun _ _ _ _ _ => (pg_name (i := 9) sclaw.nd rfl (Or.inl rfl))) (fun _ _ _ _ _ => pts_one (pt_val (pe_call (ok_law_is T) (hr.mono (by decide)) (by rfl) T.g38 T.F38.kp T.b38 .nil pass0 (pa_cons (pe_call (ok_law_comes T) (hr.mono (by decide)) (by rfl) T.g39 T.F39.kp T.b39 .nil pass0 (pa_cons (pv 3) (pa_cons (pv 9) pa_nil))) (pa_cons (pv 4) (pa_cons (pv 5) pa_nil)))))) (fun _ _ _ _ _ => (pv 9)))) pss_nil)
      (pss_one (ps_for PassesOwn.never rfl (pi_range1 (by rfl) T.m_range (pa_cons pe_int pa_nil)) (pg_name (i := 7) sclaw.nd rfl (Or.inl rfl)) (pss_cons (ps_set (i := 8) sclaw.nd rfl (Or.inl rfl) (pe_call (ok_law_told T) (hr.mono (by decide)) (by rfl) T.g41 T.F41.kp T.b41 .nil pass0 (pa_cons (pe_tup (pa_cons (pv 4) (pa_cons (pv 5) pa_nil))) (pa_cons (pv 3) pa_nil))))
      (pss_cons (ps_if (pt_cmpR op_ne (pe_callB (r := rShw K) (call_shw hA hr.units) (by rfl) T.m_repr bt_repr (pa_cons (pv 8) pa_nil)) (pe_callB (r := rShw K) (call_shw hA hr.units) (by rfl) T.m_repr bt_repr (pa_cons (pv 6) pa_nil)) (nomark _)) (pss_one (ps_ret pe_bl)) pss_nil)
      (pss_one (ps_if (pt_val (pe_callB call_isi (by rfl) T.m_isinstance bt_isinstance (pa_cons (pv 8) (pa_cons (pe_bltn (v := .ty "list") (by rfl) T.m_list bt_list rfl) pa_nil)))) (pss_one (ps_expr (pe_bm PySem.F.plainAttrs_list PySem.F.slot_list_append PySem.F.type_list_append mt_append (pv 8) (pa_cons pe_int pa_nil)))) pss_nil)))))))))
      (pss_one (ps_if (PW.pt (pw_or (pt_cmpR (op_neD hr.units) (pe_call (ok_law_told T) (hr.mono (by decide)) (by rfl) T.g41 T.F41.kp T.b41 .nil pass0 (pa_cons (pe_call (ok_law_no_box T) (hr.mono (by decide)) (by rfl) T.g43 T.F43.kp T.b43 .nil pass0 (pa_cons (pv 1) pa_nil)) (pa_cons (pv 3) pa_nil))) pe_str (nomark _)) (pw_or1 (pt_cmpR (op_neD hr.units) (pe_call (ok_law_told T) (hr.mono (by decide)) (by rfl) T.g41 T.F41.kp T.b41 .nil pass0 (pa_cons (pe_call (ok_law_no_box T) (hr.mono (by decide)) (by rfl) T.g43 T.F43.kp T.b43 .nil pass0 (pa_cons (pv 1) pa_nil)) (pa_cons (pe_op (r := rRepA K) op_repA (pe_tup (pa_cons pe_int pa_nil)) pe_int) pa_nil))) pe_str (nomark _))))) (pss_one (ps_ret pe_bl)) pss_nil))))))
      (pss_one (ps_ret pe_bl)))), ?_⟩
    refine ⟨.ref a, rfl, a, ns, rfl, hS, fun H1 p l ms s1 P1 => ?_⟩
    refine ⟨4, rfl, by decide, by decide, ?_⟩
    refine for_range (fun i σ H2 => ∃ o2 o3 o4 o5 o6 o7 o8 : Option V, σ = [some (.ref a), some (.ref p), o2, o3, o4, o5, o6, o7, o8, none] ∧ Pen H2 p l ms) ⟨none, none, none, none, none, none, none, rfl, P1⟩ ?_ ?_
    · rintro i _ H2 hi ⟨o2, o3, o4, o5, o6, o7, o8, rfl, P2⟩
      -- share
      refine ⟨fun σ H3 => ∃ (c : Addr) (xs : List Int), σ = [some (.ref a), some (.ref p), some (.int (0 + (i : Int))), some (.ref c), o4, o5, o6, o7, o8, none] ∧ Pen H3 p l ms ∧ H3 c = some (.tup (xs.map V.int)) ∧ Sh xs, ?_, ?_⟩
      · refine ⟨.ref p, rfl, small_line (by show 2 ≤ 100000; omega), fun z nz => ?_⟩
        have s3 := same_new (o := .lst [V.int 6, V.int 20]) nz
        refine ⟨.ref p, rfl, p, l, ms, 8, rfl, P2.same s3, by decide, by decide, fun H4 d k4 P4 d0 d1 => ?_⟩
        have hzp : z ≠ p := P2.nw nz
        have hz4 := k4 z _ hzp upd_same
        obtain ⟨m, hat, hm1, hm2⟩ : ∃ m : Int, atI [V.int 6, V.int 20] (if decide (V.int d = V.int 7) = true then 1 else 0) = some (V.int m) ∧ 1 ≤ m ∧ m ≤ 20 := by
          by_cases e : decide (V.int d = V.int 7) = true
          · rw [if_pos e]
            exact ⟨20, rfl, by decide, by decide⟩
          · rw [if_neg e]
            exact ⟨6, rfl, by decide, by decide⟩
        exact ⟨rfl, .inr ⟨_, rfl, z, _, _, .int m, rfl, rfl, SqL.of hz4, hat, p, l, ms, m, rfl, P4, hm1, hm2, fun H5 one xs k5 P5 h5 hx _ _ => ⟨one, xs, rfl, P5, h5, hx⟩⟩⟩
      rintro _ H3 ⟨c, xs, rfl, P3, hc, hx⟩
      have hxn := hx.n
      have hcp := P3.apart hc
      -- without a box
      refine ⟨fun σ H4 => σ = [some (.ref a), some (.ref p), some (.int (0 + (i : Int))), some (.ref c), o4, o5, o6, o7, o8, none] ∧ Same H3 H4, ?_, ?_⟩
      · exact ⟨.ref c, rfl, c, xs, rfl, hc, hx, fun H5 s5 => ⟨_, rfl, iteF ⟨rfl, s5⟩⟩⟩
      rintro _ H4 ⟨rfl, s4⟩
      have P4 := P3.same s4
      have hc4 := s4 _ _ hc
      -- in boxes
      refine ⟨fun σ H5 => ∃ o4 o5 o6 o7 o8, σ = [some (.ref a), some (.ref p), some (.int (0 + (i : Int))), some (.ref c), o4, o5, o6, o7, o8, none] ∧ Kp p H4 H5 ∧ Pen H5 p l ms, ?_, ?_⟩
      · refine ⟨.ref p, rfl, .ref c, rfl, p, l, ms, c, xs, rfl, P4, hc4, hx, fun H5 L zs k5 P5 B5 => ?_⟩
        have hc5 := k5 c _ hcp hc4
        refine ⟨L, rfl, ⟨_, SqL.of B5.1⟩, ?_⟩
        refine for_it (walk_list (xs := zs)) (fun j σ H6 => ∃ o4 o5 o6 o7 o8 : Option V, σ = [some (.ref a), some (.ref p), some (.int (0 + (i : Int))), some (.ref c), o4, o5, o6, o7, o8, none] ∧ Same H5 H6) ⟨o4, o5, o6, o7, o8, rfl, Same.refl _⟩ (fun j σ H6 _ g => by obtain ⟨_, _, _, _, _, _, g⟩ := g; exact SqL.of (g _ _ B5.1)) ?_ ?_
        · clear o4 o5 o6 o7 o8
          rintro j v _ Hx H6 hj ⟨o4, o5, o6, o7, o8, rfl, s6⟩ ⟨rfl, hv⟩
          obtain ⟨b, h, w, rfl, _, hb, h0, h1, w0, w1⟩ := (B5.2.2.2 v (List.mem_of_getElem? hv)).kp (Kp.of s6)
          have hc6 := s6 _ _ hc5
          refine ⟨b, _, rfl, SqT.of hb, rfl, _, _, rfl, _, _, rfl, rfl, ?_⟩
          refine ⟨fun σ H7 => σ = [some (.ref a), some (.ref p), some (.int (0 + (i : Int))), some (.ref c), some (.int h), some (.int w), some (.str "fit"), o7, o8, none] ∧ H6 = H7, ⟨rfl, rfl⟩, ?_⟩
          rintro _ _ ⟨rfl, rfl⟩
          refine ⟨fun σ H7 => (Shw h w xs ∧ ∃ D, σ = [some (.ref a), some (.ref p), some (.int (0 + (i : Int))), some (.ref c), some (.int h), some (.int w), some (.ref D), o7, o8, none] ∧ Same H6 H7 ∧ H7 D = some (.lst ((room h w xs).map V.int))) ∨
            (¬ Shw h w xs ∧ σ = [some (.ref a), some (.ref p), some (.int (0 + (i : Int))), some (.ref c), some (.int h), some (.int w), some (.str "fit"), o7, o8, none] ∧ Same H6 H7), ?_, ?_⟩
          · refine ⟨.ref c, rfl, c, _, rfl, .inr (SqT.of hc6), fun L1 n1 => ?_⟩
            have s7 := same_new (o := .lst (xs.map V.int)) n1
            refine ⟨_, rfl, _, rfl, L1, xs, h, w, rfl, upd_same, by omega, fun hs H8 s8 => ⟨_, rfl, iteT ?_⟩, fun hs H8 s8 => ⟨_, rfl, iteF (.inr ⟨hs, rfl, s7.trans s8⟩)⟩⟩
            have s68 := s7.trans s8
            have hc8 := s68 _ _ hc6
            refine ⟨.ref c, rfl, c, _, rfl, .inr (SqT.of hc8), _, _, rfl, rfl, (xs.length : Int) + 1, by rw [List.length_map], by omega, by omega, fun D nD => ?_⟩
            have hcnt : ((xs.length : Int) + 1).toNat = xs.length + 1 := by omega
            rw [hcnt]
            refine lc_it (walk_range (lo := 0) (n := xs.length + 1)) (Grow H8 D (fun i => (((List.range i).filter (pRoom h w xs)).map fun i : Nat => (i : Int)).map V.int)) (Grow.start nD rfl) (fun _ _ _ _ => trivial) ?_ ?_
            · rintro k v _ H9 hk g ⟨rfl, hv⟩
              obtain rfl : v = V.int (k : Int) := hv.trans (congrArg V.int (Int.zero_add _))
              have hlen := rows_len (n := k) (pRoom h w xs)
              refine ⟨rfl, .ref c, rfl, _, rfl, c, xs, k, rfl, g.1 _ _ hc8, by omega, by omega, fun H10 L s10 hL => ?_⟩
              refine ⟨_, rfl, _, rfl, L, putL xs k, h, w, rfl, hL, by have := put_len xs k; omega, fun hs' H11 s11 => ?_, fun hs' H11 s11 => ?_⟩
              · have hp := (roomw_iff hs (by omega)).mpr hs'
                refine ⟨_, rfl, iteT ⟨_, rfl, _, (s10.trans s11) _ _ g.2, small_lt (by rw [List.length_map]; omega), g.put nD (s10.trans s11) ?_⟩⟩
                try dsimp only
                rw [fr_step, if_pos hp, List.map_append]
                rfl
              · have hp : ¬ pRoom h w xs k = true := fun z => hs' ((roomw_iff hs (by omega)).mp z)
                refine ⟨_, rfl, iteF (g.skip (s10.trans s11) ?_)⟩
                try dsimp only
                rw [fr_step, if_neg hp, List.append_nil]
            · intro H9 g
              exact .inl ⟨hs, D, rfl, s68.trans g.1, g.2⟩
          rintro _ H7 (⟨hs, D, rfl, s7, hD⟩ | ⟨hs, rfl, s7⟩)
          · have sm : Sm 400 1 (dS (room h w xs)) := sm_rows (by omega) _
            have b3 : (dS (room h w xs)).depth ≤ 60 := Nat.le_trans sm.c (by decide)
            have b4 : (dS (room h w xs)).shown.length ≤ sizeLine := Nat.le_trans sm.d (small_line (by decide))
            refine ⟨2, rfl, by decide, by decide, ?_⟩
            refine for_range (fun k σ H8 => ∃ o7 o8 : Option V, σ = [some (.ref a), some (.ref p), some (.int (0 + (i : Int))), some (.ref c), some (.int h), some (.int w), some (.ref D), o7, o8, none] ∧ Same H7 H8) ⟨o7, o8, rfl, Same.refl _⟩ ?_ ?_
            · rintro k _ H8 hk ⟨o7, o8, rfl, s8⟩
              refine ⟨_, rfl, _, rfl, small_line (by show 2 ≤ 100000; omega), fun t nt => ?_⟩
              have s9 := same_new (o := .tup [V.int h, V.int w]) nt
              have s69 := (s7.trans s8).trans s9
              refine ⟨.ref c, rfl, .ref t, c, xs, rfl, s69 _ _ hc6, by omega, .inl ⟨h, w, ⟨t, rfl, upd_same, h0, h1, w0, w1⟩, (fitB_iff hx).mpr hs, fun H10 L s10 nL hL => ?_⟩⟩
              have s810 := s9.trans s10
              refine ⟨.ref L, rfl, .ref L, _, rfl, dp_lst (SqL.of hL), sm.a, sm.b, b3, b4, ?_⟩
              refine ⟨.ref D, rfl, .ref D, _, rfl, dp_lst (SqL.of (s810 _ _ (s8 _ _ hD))), sm.a, sm.b, b3, b4, rfl, _, rfl, ?_⟩
              rw [decide_eq_true rfl]
              refine iteF ⟨.ref L, rfl, _, .ty "list", .type "list", .type "list", true, rfl, .ty _, .base (.lst hL), kit_ty (by decide +kernel), _, rfl, iteT ?_⟩
              refine ⟨.ref L, rfl, .inl ⟨rfl, _, SqL.of hL⟩, L, _, .int 0, rfl, rfl, hL, ?_, _, _, rfl, fun b o e => ?_⟩
              · exact small_lt (by rw [List.length_map]; have : (room h w xs).length ≤ xs.length + 1 := rows_len _; omega)
              · rw [upd_ne (ne_of_none (s9 _ _ (s8 _ _ e)) nL)]
                exact s810 _ _ (s8 _ _ e)
            · rintro _ H8 ⟨o7, o8, rfl, s8⟩
              exact ⟨_, _, _, _, _, rfl, (s6.trans s7).trans s8⟩
          · have b4 : (PyData.str "fit").shown.length ≤ sizeLine := small_line (by decide +kernel)
            refine ⟨2, rfl, by decide, by decide, ?_⟩
            refine for_range (fun k σ H8 => ∃ o7 o8 : Option V, σ = [some (.ref a), some (.ref p), some (.int (0 + (i : Int))), some (.ref c), some (.int h), some (.int w), some (.str "fit"), o7, o8, none] ∧ Same H7 H8) ⟨o7, o8, rfl, Same.refl _⟩ ?_ ?_
            · rintro k _ H8 hk ⟨o7, o8, rfl, s8⟩
              refine ⟨_, rfl, _, rfl, small_line (by show 2 ≤ 100000; omega), fun t nt => ?_⟩
              have s9 := same_new (o := .tup [V.int h, V.int w]) nt
              have s69 := (s7.trans s8).trans s9
              refine ⟨.ref c, rfl, .ref t, c, xs, rfl, s69 _ _ hc6, by omega, .inr (.inl ⟨h, w, ⟨t, rfl, upd_same, h0, h1, w0, w1⟩, Bool.eq_false_iff.mpr fun z => hs ((fitB_iff hx).mp z), fun H10 s10 => ?_⟩)⟩
              have s810 := s9.trans s10
              refine ⟨.str "fit", rfl, .str "fit", .str "fit", rfl, .str _, rfl, rfl, Nat.zero_le _, b4, ?_⟩
              refine ⟨.str "fit", rfl, .str "fit", .str "fit", rfl, .str _, rfl, rfl, Nat.zero_le _, b4, rfl, _, rfl, ?_⟩
              rw [decide_eq_true rfl]
              exact iteF ⟨.str "fit", rfl, _, .ty "list", .type "str", .type "list", false, rfl, .ty _, .base (.str _), kit_ty (by decide +kernel), _, rfl, iteF ⟨_, _, rfl, s8.trans s810⟩⟩
            · rintro _ H8 ⟨o7, o8, rfl, s8⟩
              exact ⟨_, _, _, _, _, rfl, (s6.trans s7).trans s8⟩
        · rintro _ H6 ⟨o4, o5, o6, o7, o8, rfl, s6⟩
          exact ⟨_, _, _, _, _, rfl, k5.trans (Kp.of s6), P5.same s6⟩
      clear o4 o5 o6 o7 o8
      rintro _ H5 ⟨o4, o5, o6, o7, o8, rfl, k5, P5⟩
      have hc5 := k5 c _ hcp hc4
      -- what is no box
      refine ⟨.ref p, rfl, p, l, ms, rfl, P5, fun H6 v k6 P6 hv => ?_⟩
      have hc6 := k6 c _ hcp hc5
      refine ⟨.ref c, rfl, v, c, xs, rfl, hc6, by omega, .inr (.inr ⟨hv, fun H7 s7 => ⟨.str "box", .str "box", .str _, .str _, by decide +kernel, by decide +kernel, _, rfl, ?_⟩⟩)⟩
      rw [SeqAt.eqv_refl (.str "box") (by decide +kernel)]
      refine iteF ⟨.ref p, rfl, p, l, ms, rfl, P6.same s7, fun H8 v k8 P8 hv => ⟨small_line (by show 1 ≤ 100000; omega), fun t nt => ?_⟩⟩
      have s9 := same_new (o := .tup [V.int 20]) nt
      refine ⟨t, 20, _, rfl, rfl, upd_same, by decide, by decide, by decide, by decide, fun H10 u s10 hu => ?_⟩
      refine ⟨v, u, List.replicate 20 20, rfl, hu, by decide, .inr (.inr ⟨hv.same (s9.trans s10), fun H11 s11 => ⟨.str "box", .str "box", .str _, .str _, by decide +kernel, by decide +kernel, _, rfl, ?_⟩⟩)⟩
      rw [SeqAt.eqv_refl (.str "box") (by decide +kernel)]
      exact iteF ⟨_, _, _, _, _, _, _, rfl, P8.same ((s9.trans s10).trans s11)⟩
    · rintro _ H2 ⟨o2, o3, o4, o5, o6, o7, o8, rfl, P2⟩
      exact q _
end
theorem all_mk {l : PySem.W.OpenLaw} {w : World} {K : PySem.W.Frag} {h : Heap} {mg : Str → Option Value} {fa : Addr} (X : K.In h) (G : h.Ns mainGlobals mg) (hfa : mg "law" = some (.ref fa))
    {f19 : Addr} {od19 an19 : Option Addr} {sl19 : Array (Option Value)} {oc19 kV19 dc19 pm19 cd19 ct19 : Value}
    (a19 : PySem.W.nsIn K mainGlobals "is_whole" = some (some (.ref f19)))
    (l19 : K.lookup f19 = some ⟨oc19, od19, .func (PySem.W.fnOf "is_whole" "is_whole" (defArgs stis_whole) (defBody stis_whole) (defScope stis_whole) .none kV19 dc19 pm19 an19 cd19 ct19), sl19⟩)
    (c19 : PySem.W.codeIn K cd19 "is_whole" = true) (k19 : PySem.W.keepIn K (.ref f19) = true)
    {f20 : Addr} {od20 an20 : Option Addr} {sl20 : Array (Option Value)} {oc20 kV20 dc20 pm20 cd20 ct20 : Value}
    (a20 : PySem.W.nsIn K mainGlobals "is_whole_from" = some (some (.ref f20)))
    (l20 : K.lookup f20 = some ⟨oc20, od20, .func (PySem.W.fnOf "is_whole_from" "is_whole_from" (defArgs stis_whole_from) (defBody stis_whole_from) (defScope stis_whole_from) .none kV20 dc20 pm20 an20 cd20 ct20), sl20⟩)
    (c20 : PySem.W.codeIn K cd20 "is_whole_from" = true) (k20 : PySem.W.keepIn K (.ref f20) = true)
    {f25 : Addr} {od25 an25 : Option Addr} {sl25 : Array (Option Value)} {oc25 kV25 dc25 pm25 cd25 ct25 : Value}
    (a25 : PySem.W.nsIn K mainGlobals "is_box" = some (some (.ref f25)))
    (l25 : K.lookup f25 = some ⟨oc25, od25, .func (PySem.W.fnOf "is_box" "is_box" (defArgs stis_box) (defBody stis_box) (defScope stis_box) .none kV25 dc25 pm25 an25 cd25 ct25), sl25⟩)
    (c25 : PySem.W.codeIn K cd25 "is_box" = true) (k25 : PySem.W.keepIn K (.ref f25) = true)
    {f26 : Addr} {od26 an26 : Option Addr} {sl26 : Array (Option Value)} {oc26 kV26 dc26 pm26 cd26 ct26 : Value}
    (a26 : PySem.W.nsIn K mainGlobals "need_box" = some (some (.ref f26)))
    (l26 : K.lookup f26 = some ⟨oc26, od26, .func (PySem.W.fnOf "need_box" "need_box" (defArgs stneed_box) (defBody stneed_box) (defScope stneed_box) .none kV26 dc26 pm26 an26 cd26 ct26), sl26⟩)
    (c26 : PySem.W.codeIn K cd26 "need_box" = true) (k26 : PySem.W.keepIn K (.ref f26) = true)
    {f27 : Addr} {od27 an27 : Option Addr} {sl27 : Array (Option Value)} {oc27 kV27 dc27 pm27 cd27 ct27 : Value}
    (a27 : PySem.W.nsIn K mainGlobals "fits_in" = some (some (.ref f27)))
    (l27 : K.lookup f27 = some ⟨oc27, od27, .func (PySem.W.fnOf "fits_in" "fits_in" (defArgs stfits_in) (defBody stfits_in) (defScope stfits_in) .none kV27 dc27 pm27 an27 cd27 ct27), sl27⟩)
    (c27 : PySem.W.codeIn K cd27 "fits_in" = true) (k27 : PySem.W.keepIn K (.ref f27) = true)
    {f28 : Addr} {od28 an28 : Option Addr} {sl28 : Array (Option Value)} {oc28 kV28 dc28 pm28 cd28 ct28 : Value}
    (a28 : PySem.W.nsIn K mainGlobals "need_fit" = some (some (.ref f28)))
    (l28 : K.lookup f28 = some ⟨oc28, od28, .func (PySem.W.fnOf "need_fit" "need_fit" (defArgs stneed_fit) (defBody stneed_fit) (defScope stneed_fit) .none kV28 dc28 pm28 an28 cd28 ct28), sl28⟩)
    (c28 : PySem.W.codeIn K cd28 "need_fit" = true) (k28 : PySem.W.keepIn K (.ref f28) = true)
    {f30 : Addr} {od30 an30 : Option Addr} {sl30 : Array (Option Value)} {oc30 kV30 dc30 pm30 cd30 ct30 : Value}
    (a30 : PySem.W.nsIn K mainGlobals "in_rows" = some (some (.ref f30)))
    (l30 : K.lookup f30 = some ⟨oc30, od30, .func (PySem.W.fnOf "in_rows" "in_rows" (defArgs stin_rows) (defBody stin_rows) (defScope stin_rows) .none kV30 dc30 pm30 an30 cd30 ct30), sl30⟩)
    (c30 : PySem.W.codeIn K cd30 "in_rows" = true) (k30 : PySem.W.keepIn K (.ref f30) = true)
    {f31 : Addr} {od31 an31 : Option Addr} {sl31 : Array (Option Value)} {oc31 kV31 dc31 pm31 cd31 ct31 : Value}
    (a31 : PySem.W.nsIn K mainGlobals "out_rows" = some (some (.ref f31)))
    (l31 : K.lookup f31 = some ⟨oc31, od31, .func (PySem.W.fnOf "out_rows" "out_rows" (defArgs stout_rows) (defBody stout_rows) (defScope stout_rows) .none kV31 dc31 pm31 an31 cd31 ct31), sl31⟩)
    (c31 : PySem.W.codeIn K cd31 "out_rows" = true) (k31 : PySem.W.keepIn K (.ref f31) = true)
    {f32 : Addr} {od32 an32 : Option Addr} {sl32 : Array (Option Value)} {oc32 kV32 dc32 pm32 cd32 ct32 : Value}
    (a32 : PySem.W.nsIn K mainGlobals "in_rows_of" = some (some (.ref f32)))
    (l32 : K.lookup f32 = some ⟨oc32, od32, .func (PySem.W.fnOf "in_rows_of" "in_rows_of" (defArgs stin_rows_of) (defBody stin_rows_of) (defScope stin_rows_of) .none kV32 dc32 pm32 an32 cd32 ct32), sl32⟩)
    (c32 : PySem.W.codeIn K cd32 "in_rows_of" = true) (k32 : PySem.W.keepIn K (.ref f32) = true)
    {f33 : Addr} {od33 an33 : Option Addr} {sl33 : Array (Option Value)} {oc33 kV33 dc33 pm33 cd33 ct33 : Value}
    (a33 : PySem.W.nsIn K mainGlobals "rows_with_room" = some (some (.ref f33)))
    (l33 : K.lookup f33 = some ⟨oc33, od33, .func (PySem.W.fnOf "rows_with_room" "rows_with_room" (defArgs strows_with_room) (defBody strows_with_room) (defScope strows_with_room) .none kV33 dc33 pm33 an33 cd33 ct33), sl33⟩)
    (c33 : PySem.W.codeIn K cd33 "rows_with_room" = true) (k33 : PySem.W.keepIn K (.ref f33) = true)
    {f35 : Addr} {od35 an35 : Option Addr} {sl35 : Array (Option Value)} {oc35 kV35 dc35 pm35 cd35 ct35 : Value}
    (a35 : PySem.W.nsIn K mainGlobals "_law_pen" = some (some (.ref f35)))
    (l35 : K.lookup f35 = some ⟨oc35, od35, .func (PySem.W.fnOf "_law_pen" "_law_pen" (defArgs st_law_pen) (defBody st_law_pen) (defScope st_law_pen) .none kV35 dc35 pm35 an35 cd35 ct35), sl35⟩)
    (c35 : PySem.W.codeIn K cd35 "_law_pen" = true) (k35 : PySem.W.keepIn K (.ref f35) = true)
    {f36 : Addr} {od36 an36 : Option Addr} {sl36 : Array (Option Value)} {oc36 kV36 dc36 pm36 cd36 ct36 : Value}
    (a36 : PySem.W.nsIn K mainGlobals "_law_take" = some (some (.ref f36)))
    (l36 : K.lookup f36 = some ⟨oc36, od36, .func (PySem.W.fnOf "_law_take" "_law_take" (defArgs st_law_take) (defBody st_law_take) (defScope st_law_take) .none kV36 dc36 pm36 an36 cd36 ct36), sl36⟩)
    (c36 : PySem.W.codeIn K cd36 "_law_take" = true) (k36 : PySem.W.keepIn K (.ref f36) = true)
    {f37 : Addr} {od37 an37 : Option Addr} {sl37 : Array (Option Value)} {oc37 kV37 dc37 pm37 cd37 ct37 : Value}
    (a37 : PySem.W.nsIn K mainGlobals "_law_share" = some (some (.ref f37)))
    (l37 : K.lookup f37 = some ⟨oc37, od37, .func (PySem.W.fnOf "_law_share" "_law_share" (defArgs st_law_share) (defBody st_law_share) (defScope st_law_share) .none kV37 dc37 pm37 an37 cd37 ct37), sl37⟩)
    (c37 : PySem.W.codeIn K cd37 "_law_share" = true) (k37 : PySem.W.keepIn K (.ref f37) = true)
    {f38 : Addr} {od38 an38 : Option Addr} {sl38 : Array (Option Value)} {oc38 kV38 dc38 pm38 cd38 ct38 : Value}
    (a38 : PySem.W.nsIn K mainGlobals "_law_is" = some (some (.ref f38)))
    (l38 : K.lookup f38 = some ⟨oc38, od38, .func (PySem.W.fnOf "_law_is" "_law_is" (defArgs st_law_is) (defBody st_law_is) (defScope st_law_is) .none kV38 dc38 pm38 an38 cd38 ct38), sl38⟩)
    (c38 : PySem.W.codeIn K cd38 "_law_is" = true) (k38 : PySem.W.keepIn K (.ref f38) = true)
    {f39 : Addr} {od39 an39 : Option Addr} {sl39 : Array (Option Value)} {oc39 kV39 dc39 pm39 cd39 ct39 : Value}
    (a39 : PySem.W.nsIn K mainGlobals "_law_comes" = some (some (.ref f39)))
    (l39 : K.lookup f39 = some ⟨oc39, od39, .func (PySem.W.fnOf "_law_comes" "_law_comes" (defArgs st_law_comes) (defBody st_law_comes) (defScope st_law_comes) .none kV39 dc39 pm39 an39 cd39 ct39), sl39⟩)
    (c39 : PySem.W.codeIn K cd39 "_law_comes" = true) (k39 : PySem.W.keepIn K (.ref f39) = true)
    {f40 : Addr} {od40 an40 : Option Addr} {sl40 : Array (Option Value)} {oc40 kV40 dc40 pm40 cd40 ct40 : Value}
    (a40 : PySem.W.nsIn K mainGlobals "_law_goes" = some (some (.ref f40)))
    (l40 : K.lookup f40 = some ⟨oc40, od40, .func (PySem.W.fnOf "_law_goes" "_law_goes" (defArgs st_law_goes) (defBody st_law_goes) (defScope st_law_goes) .none kV40 dc40 pm40 an40 cd40 ct40), sl40⟩)
    (c40 : PySem.W.codeIn K cd40 "_law_goes" = true) (k40 : PySem.W.keepIn K (.ref f40) = true)
    {f41 : Addr} {od41 an41 : Option Addr} {sl41 : Array (Option Value)} {oc41 kV41 dc41 pm41 cd41 ct41 : Value}
    (a41 : PySem.W.nsIn K mainGlobals "_law_told" = some (some (.ref f41)))
    (l41 : K.lookup f41 = some ⟨oc41, od41, .func (PySem.W.fnOf "_law_told" "_law_told" (defArgs st_law_told) (defBody st_law_told) (defScope st_law_told) .none kV41 dc41 pm41 an41 cd41 ct41), sl41⟩)
    (c41 : PySem.W.codeIn K cd41 "_law_told" = true) (k41 : PySem.W.keepIn K (.ref f41) = true)
    {f42 : Addr} {od42 an42 : Option Addr} {sl42 : Array (Option Value)} {oc42 kV42 dc42 pm42 cd42 ct42 : Value}
    (a42 : PySem.W.nsIn K mainGlobals "_law_boxes" = some (some (.ref f42)))
    (l42 : K.lookup f42 = some ⟨oc42, od42, .func (PySem.W.fnOf "_law_boxes" "_law_boxes" (defArgs st_law_boxes) (defBody st_law_boxes) (defScope st_law_boxes) .none kV42 dc42 pm42 an42 cd42 ct42), sl42⟩)
    (c42 : PySem.W.codeIn K cd42 "_law_boxes" = true) (k42 : PySem.W.keepIn K (.ref f42) = true)
    {f43 : Addr} {od43 an43 : Option Addr} {sl43 : Array (Option Value)} {oc43 kV43 dc43 pm43 cd43 ct43 : Value}
    (a43 : PySem.W.nsIn K mainGlobals "_law_no_box" = some (some (.ref f43)))
    (l43 : K.lookup f43 = some ⟨oc43, od43, .func (PySem.W.fnOf "_law_no_box" "_law_no_box" (defArgs st_law_no_box) (defBody st_law_no_box) (defScope st_law_no_box) .none kV43 dc43 pm43 an43 cd43 ct43), sl43⟩)
    (c43 : PySem.W.codeIn K cd43 "_law_no_box" = true) (k43 : PySem.W.keepIn K (.ref f43) = true)
    {f44 : Addr} {od44 an44 : Option Addr} {sl44 : Array (Option Value)} {oc44 kV44 dc44 pm44 cd44 ct44 : Value}
    (a44 : PySem.W.nsIn K mainGlobals "_law_plain_right" = some (some (.ref f44)))
    (l44 : K.lookup f44 = some ⟨oc44, od44, .func (PySem.W.fnOf "_law_plain_right" "_law_plain_right" (defArgs st_law_plain_right) (defBody st_law_plain_right) (defScope st_law_plain_right) .none kV44 dc44 pm44 an44 cd44 ct44), sl44⟩)
    (c44 : PySem.W.codeIn K cd44 "_law_plain_right" = true) (k44 : PySem.W.keepIn K (.ref f44) = true)
    {f45 : Addr} {od45 an45 : Option Addr} {sl45 : Array (Option Value)} {oc45 kV45 dc45 pm45 cd45 ct45 : Value}
    (a45 : PySem.W.nsIn K mainGlobals "law" = some (some (.ref f45)))
    (l45 : K.lookup f45 = some ⟨oc45, od45, .func (PySem.W.fnOf "law" "law" (defArgs stlaw) (defBody stlaw) (defScope stlaw) .none kV45 dc45 pm45 an45 cd45 ct45), sl45⟩)
    (c45 : PySem.W.codeIn K cd45 "law" = true) (k45 : PySem.W.keepIn K (.ref f45) = true)
    {f1 : Addr} (a1 : PySem.W.nsIn K mainGlobals "GridError" = some (some (.ref f1)))
    {f2 : Addr} (a2 : PySem.W.nsIn K mainGlobals "NoShare" = some (some (.ref f2)))
    {f3 : Addr} (a3 : PySem.W.nsIn K mainGlobals "NoBox" = some (some (.ref f3)))
    {f4 : Addr} (a4 : PySem.W.nsIn K mainGlobals "NoFit" = some (some (.ref f4)))
    {f5 : Addr} (a5 : PySem.W.nsIn K mainGlobals "NoNumber" = some (some (.ref f5)))
    {f6 : Addr} (a6 : PySem.W.nsIn K mainGlobals "NoRow" = some (some (.ref f6)))
    {f7 : Addr} (a7 : PySem.W.nsIn K mainGlobals "NoCell" = some (some (.ref f7)))
    {f8 : Addr} (a8 : PySem.W.nsIn K mainGlobals "NoChain" = some (some (.ref f8)))
    {f9 : Addr} (a9 : PySem.W.nsIn K mainGlobals "NoSquare" = some (some (.ref f9)))
    {f10 : Addr} (a10 : PySem.W.nsIn K mainGlobals "NoFilling" = some (some (.ref f10)))
    {f11 : Addr} (a11 : PySem.W.nsIn K mainGlobals "NoWalk" = some (some (.ref f11)))
    {f12 : Addr} (a12 : PySem.W.nsIn K mainGlobals "NoStack" = some (some (.ref f12)))
    {f13 : Addr} (a13 : PySem.W.nsIn K mainGlobals "NoPile" = some (some (.ref f13)))
    {f14 : Addr} (a14 : PySem.W.nsIn K mainGlobals "NoWay" = some (some (.ref f14)))
    {f15 : Addr} (a15 : PySem.W.nsIn K mainGlobals "NoBack" = some (some (.ref f15)))
    {f16 : Addr} (a16 : PySem.W.nsIn K mainGlobals "NoText" = some (some (.ref f16)))
    {f17 : Addr} (a17 : PySem.W.nsIn K mainGlobals "NoWord" = some (some (.ref f17)))
    (x3_ : PySem.W.excIn K f3 [.type "ValueError", .type "Exception", .type "BaseException", .type "object"] "ValueError.__new__" = true)
    (k3_ : PySem.W.keepIn K (.ref f3) = true)
    (t3_ : PySem.W.typeIn K (.ref f3) = some (.type "type"))
    (v3_ : PySem.W.kitOne K (.ref f3) (.type "ValueError") = some true)
    (m3_ : PySem.W.exmOne K (.ref f3) (.ref f1) = some true)
    (e3_hg_ : PySem.W.findIn K (.ref f3) "__getattribute__" = some (some (.builtin "BaseException.__getattribute__")))
    (e3_hk_ : PySem.W.findIn K (.ref f3) "__getattr__" = some none)
    (e3_hs_ : PySem.W.subIn K (.ref f3) (.type "BaseException") = some true)
    (e3_hd_ : PySem.W.hasDictIn K f3 = true)
    (e3_ha_ : PySem.W.findIn K (.ref f3) "__class__" = some (some (.builtin "object.__class__")))
    (e3_hn_ : PySem.W.specialIn K (.builtin "object.__class__") "__get__" = some (some (.builtin "getset_descriptor.__get__")))
    (e3_ht_ : PySem.W.takesIn K (.builtin "object.__class__") = some true)
    (e3_hm_ : PySem.W.mroIn K f3 (.type "object") = some true)
    (q3_1_ : PySem.W.kitOne K (.ref f3) (.ref f1) = some true)
    (q3_2_ : PySem.W.kitOne K (.ref f3) (.ref f2) = some false)
    (q3_3_ : PySem.W.kitOne K (.ref f3) (.ref f3) = some true)
    (q3_4_ : PySem.W.kitOne K (.ref f3) (.ref f4) = some false)
    (q3_5_ : PySem.W.kitOne K (.ref f3) (.ref f5) = some false)
    (q3_6_ : PySem.W.kitOne K (.ref f3) (.ref f6) = some false)
    (q3_7_ : PySem.W.kitOne K (.ref f3) (.ref f7) = some false)
    (q3_8_ : PySem.W.kitOne K (.ref f3) (.ref f8) = some false)
    (q3_9_ : PySem.W.kitOne K (.ref f3) (.ref f9) = some false)
    (q3_10_ : PySem.W.kitOne K (.ref f3) (.ref f10) = some false)
    (q3_11_ : PySem.W.kitOne K (.ref f3) (.ref f11) = some false)
    (q3_12_ : PySem.W.kitOne K (.ref f3) (.ref f12) = some false)
    (q3_13_ : PySem.W.kitOne K (.ref f3) (.ref f13) = some false)
    (q3_14_ : PySem.W.kitOne K (.ref f3) (.ref f14) = some false)
    (q3_15_ : PySem.W.kitOne K (.ref f3) (.ref f15) = some false)
    (q3_16_ : PySem.W.kitOne K (.ref f3) (.ref f16) = some false)
    (q3_17_ : PySem.W.kitOne K (.ref f3) (.ref f17) = some false)
    (x4_ : PySem.W.excIn K f4 [.type "ValueError", .type "Exception", .type "BaseException", .type "object"] "ValueError.__new__" = true)
    (k4_ : PySem.W.keepIn K (.ref f4) = true)
    (t4_ : PySem.W.typeIn K (.ref f4) = some (.type "type"))
    (v4_ : PySem.W.kitOne K (.ref f4) (.type "ValueError") = some true)
    (m4_ : PySem.W.exmOne K (.ref f4) (.ref f1) = some true)
    (e4_hg_ : PySem.W.findIn K (.ref f4) "__getattribute__" = some (some (.builtin "BaseException.__getattribute__")))
    (e4_hk_ : PySem.W.findIn K (.ref f4) "__getattr__" = some none)
    (e4_hs_ : PySem.W.subIn K (.ref f4) (.type "BaseException") = some true)
    (e4_hd_ : PySem.W.hasDictIn K f4 = true)
    (e4_ha_ : PySem.W.findIn K (.ref f4) "__class__" = some (some (.builtin "object.__class__")))
    (e4_hn_ : PySem.W.specialIn K (.builtin "object.__class__") "__get__" = some (some (.builtin "getset_descriptor.__get__")))
    (e4_ht_ : PySem.W.takesIn K (.builtin "object.__class__") = some true)
    (e4_hm_ : PySem.W.mroIn K f4 (.type "object") = some true)
    (q4_1_ : PySem.W.kitOne K (.ref f4) (.ref f1) = some true)
    (q4_2_ : PySem.W.kitOne K (.ref f4) (.ref f2) = some false)
    (q4_3_ : PySem.W.kitOne K (.ref f4) (.ref f3) = some false)
    (q4_4_ : PySem.W.kitOne K (.ref f4) (.ref f4) = some true)
    (q4_5_ : PySem.W.kitOne K (.ref f4) (.ref f5) = some false)
    (q4_6_ : PySem.W.kitOne K (.ref f4) (.ref f6) = some false)
    (q4_7_ : PySem.W.kitOne K (.ref f4) (.ref f7) = some false)
    (q4_8_ : PySem.W.kitOne K (.ref f4) (.ref f8) = some false)
    (q4_9_ : PySem.W.kitOne K (.ref f4) (.ref f9) = some false)
    (q4_10_ : PySem.W.kitOne K (.ref f4) (.ref f10) = some false)
    (q4_11_ : PySem.W.kitOne K (.ref f4) (.ref f11) = some false)
    (q4_12_ : PySem.W.kitOne K (.ref f4) (.ref f12) = some false)
    (q4_13_ : PySem.W.kitOne K (.ref f4) (.ref f13) = some false)
    (q4_14_ : PySem.W.kitOne K (.ref f4) (.ref f14) = some false)
    (q4_15_ : PySem.W.kitOne K (.ref f4) (.ref f15) = some false)
    (q4_16_ : PySem.W.kitOne K (.ref f4) (.ref f16) = some false)
    (q4_17_ : PySem.W.kitOne K (.ref f4) (.ref f17) = some false)
    {t_MOST_ROWS : Tok} (z_MOST_ROWS : PySem.W.nsIn K mainGlobals "MOST_ROWS" = some (some (.int 20 t_MOST_ROWS)))
    {t_LONGEST_ROW : Tok} (z_LONGEST_ROW : PySem.W.nsIn K mainGlobals "LONGEST_ROW" = some (some (.int 20 t_LONGEST_ROW)))
    {t_LONGEST_SIDE : Tok} (z_LONGEST_SIDE : PySem.W.nsIn K mainGlobals "LONGEST_SIDE" = some (some (.int 20 t_LONGEST_SIDE)))
    (z_ValueError : PySem.W.nsIn K mainGlobals "ValueError" = some none)
    (z_abs : PySem.W.nsIn K mainGlobals "abs" = some none)
    (z_all : PySem.W.nsIn K mainGlobals "all" = some none)
    (z_bool : PySem.W.nsIn K mainGlobals "bool" = some none)
    (z_enumerate : PySem.W.nsIn K mainGlobals "enumerate" = some none)
    (z_int : PySem.W.nsIn K mainGlobals "int" = some none)
    (z_isinstance : PySem.W.nsIn K mainGlobals "isinstance" = some none)
    (z_len : PySem.W.nsIn K mainGlobals "len" = some none)
    (z_list : PySem.W.nsIn K mainGlobals "list" = some none)
    (z_max : PySem.W.nsIn K mainGlobals "max" = some none)
    (z_min : PySem.W.nsIn K mainGlobals "min" = some none)
    (z_range : PySem.W.nsIn K mainGlobals "range" = some none)
    (z_repr : PySem.W.nsIn K mainGlobals "repr" = some none)
    (z_tuple : PySem.W.nsIn K mainGlobals "tuple" = some none)
    (z_zip : PySem.W.nsIn K mainGlobals "zip" = some none)
    : ∃ fd : FuncData, (∀ (s : Shared) (v : Value), BindsTo s fd ⟨[v], []⟩ [("_law_script", v)]) ∧ ∀ base : Heap, K.In base → base.Ns mainGlobals mg → FnG l.prog w K mg base 9 fa fd ["_law_script"] (sp_law K) := by
  have e := hfa.symm.trans (PySem.W.mg_of X G a45)
  cases e
  have F19 := fun_mk (st := stis_whole) l19 c19 k19
  have F20 := fun_mk (st := stis_whole_from) l20 c20 k20
  have F25 := fun_mk (st := stis_box) l25 c25 k25
  have F26 := fun_mk (st := stneed_box) l26 c26 k26
  have F27 := fun_mk (st := stfits_in) l27 c27 k27
  have F28 := fun_mk (st := stneed_fit) l28 c28 k28
  have F30 := fun_mk (st := stin_rows) l30 c30 k30
  have F31 := fun_mk (st := stout_rows) l31 c31 k31
  have F32 := fun_mk (st := stin_rows_of) l32 c32 k32
  have F33 := fun_mk (st := strows_with_room) l33 c33 k33
  have F35 := fun_mk (st := st_law_pen) l35 c35 k35
  have F36 := fun_mk (st := st_law_take) l36 c36 k36
  have F37 := fun_mk (st := st_law_share) l37 c37 k37
  have F38 := fun_mk (st := st_law_is) l38 c38 k38
  have F39 := fun_mk (st := st_law_comes) l39 c39 k39
  have F40 := fun_mk (st := st_law_goes) l40 c40 k40
  have F41 := fun_mk (st := st_law_told) l41 c41 k41
  have F42 := fun_mk (st := st_law_boxes) l42 c42 k42
  have F43 := fun_mk (st := st_law_no_box) l43 c43 k43
  have F44 := fun_mk (st := st_law_plain_right) l44 c44 k44
  have F45 := fun_mk (st := stlaw) l45 c45 k45
  have T : Txt K mg (fun i => match i with | 19 => f19 | 20 => f20 | 25 => f25 | 26 => f26 | 27 => f27 | 28 => f28 | 30 => f30 | 31 => f31 | 32 => f32 | 33 => f33 | 35 => f35 | 36 => f36 | 37 => f37 | 38 => f38 | 39 => f39 | 40 => f40 | 41 => f41 | 42 => f42 | 43 => f43 | 44 => f44 | 1 => f1 | 2 => f2 | 3 => f3 | 4 => f4 | 5 => f5 | 6 => f6 | 7 => f7 | 8 => f8 | 9 => f9 | 10 => f10 | 11 => f11 | 12 => f12 | 13 => f13 | 14 => f14 | 15 => f15 | 16 => f16 | 17 => f17 | _ => fa) (fun i => match i with | 19 => PySem.W.fnOf "is_whole" "is_whole" (defArgs stis_whole) (defBody stis_whole) (defScope stis_whole) .none kV19 dc19 pm19 an19 cd19 ct19 | 20 => PySem.W.fnOf "is_whole_from" "is_whole_from" (defArgs stis_whole_from) (defBody stis_whole_from) (defScope stis_whole_from) .none kV20 dc20 pm20 an20 cd20 ct20 | 25 => PySem.W.fnOf "is_box" "is_box" (defArgs stis_box) (defBody stis_box) (defScope stis_box) .none kV25 dc25 pm25 an25 cd25 ct25 | 26 => PySem.W.fnOf "need_box" "need_box" (defArgs stneed_box) (defBody stneed_box) (defScope stneed_box) .none kV26 dc26 pm26 an26 cd26 ct26 | 27 => PySem.W.fnOf "fits_in" "fits_in" (defArgs stfits_in) (defBody stfits_in) (defScope stfits_in) .none kV27 dc27 pm27 an27 cd27 ct27 | 28 => PySem.W.fnOf "need_fit" "need_fit" (defArgs stneed_fit) (defBody stneed_fit) (defScope stneed_fit) .none kV28 dc28 pm28 an28 cd28 ct28 | 30 => PySem.W.fnOf "in_rows" "in_rows" (defArgs stin_rows) (defBody stin_rows) (defScope stin_rows) .none kV30 dc30 pm30 an30 cd30 ct30 | 31 => PySem.W.fnOf "out_rows" "out_rows" (defArgs stout_rows) (defBody stout_rows) (defScope stout_rows) .none kV31 dc31 pm31 an31 cd31 ct31 | 32 => PySem.W.fnOf "in_rows_of" "in_rows_of" (defArgs stin_rows_of) (defBody stin_rows_of) (defScope stin_rows_of) .none kV32 dc32 pm32 an32 cd32 ct32 | 33 => PySem.W.fnOf "rows_with_room" "rows_with_room" (defArgs strows_with_room) (defBody strows_with_room) (defScope strows_with_room) .none kV33 dc33 pm33 an33 cd33 ct33 | 35 => PySem.W.fnOf "_law_pen" "_law_pen" (defArgs st_law_pen) (defBody st_law_pen) (defScope st_law_pen) .none kV35 dc35 pm35 an35 cd35 ct35 | 36 => PySem.W.fnOf "_law_take" "_law_take" (defArgs st_law_take) (defBody st_law_take) (defScope st_law_take) .none kV36 dc36 pm36 an36 cd36 ct36 | 37 => PySem.W.fnOf "_law_share" "_law_share" (defArgs st_law_share) (defBody st_law_share) (defScope st_law_share) .none kV37 dc37 pm37 an37 cd37 ct37 | 38 => PySem.W.fnOf "_law_is" "_law_is" (defArgs st_law_is) (defBody st_law_is) (defScope st_law_is) .none kV38 dc38 pm38 an38 cd38 ct38 | 39 => PySem.W.fnOf "_law_comes" "_law_comes" (defArgs st_law_comes) (defBody st_law_comes) (defScope st_law_comes) .none kV39 dc39 pm39 an39 cd39 ct39 | 40 => PySem.W.fnOf "_law_goes" "_law_goes" (defArgs st_law_goes) (defBody st_law_goes) (defScope st_law_goes) .none kV40 dc40 pm40 an40 cd40 ct40 | 41 => PySem.W.fnOf "_law_told" "_law_told" (defArgs st_law_told) (defBody st_law_told) (defScope st_law_told) .none kV41 dc41 pm41 an41 cd41 ct41 | 42 => PySem.W.fnOf "_law_boxes" "_law_boxes" (defArgs st_law_boxes) (defBody st_law_boxes) (defScope st_law_boxes) .none kV42 dc42 pm42 an42 cd42 ct42 | 43 => PySem.W.fnOf "_law_no_box" "_law_no_box" (defArgs st_law_no_box) (defBody st_law_no_box) (defScope st_law_no_box) .none kV43 dc43 pm43 an43 cd43 ct43 | 44 => PySem.W.fnOf "_law_plain_right" "_law_plain_right" (defArgs st_law_plain_right) (defBody st_law_plain_right) (defScope st_law_plain_right) .none kV44 dc44 pm44 an44 cd44 ct44 | 45 => PySem.W.fnOf "law" "law" (defArgs stlaw) (defBody stlaw) (defScope stlaw) .none kV45 dc45 pm45 an45 cd45 ct45 | _ => PySem.W.fnOf "law" "law" (defArgs stlaw) (defBody stlaw) (defScope stlaw) .none kV45 dc45 pm45 an45 cd45 ct45) := {
    F19 := F19
    g19 := PySem.W.mg_of X G a19
    b19 := F19.binds (ps := ["thing"]) fun _ _ _ _ _ _ us hl => match us, hl with | [_], _ => rfl
    F20 := F20
    g20 := PySem.W.mg_of X G a20
    b20 := F20.binds (ps := ["least", "most", "thing"]) fun _ _ _ _ _ _ us hl => match us, hl with | [_, _, _], _ => rfl
    F25 := F25
    g25 := PySem.W.mg_of X G a25
    b25 := F25.binds (ps := ["thing"]) fun _ _ _ _ _ _ us hl => match us, hl with | [_], _ => rfl
    F26 := F26
    g26 := PySem.W.mg_of X G a26
    b26 := F26.binds (ps := ["thing"]) fun _ _ _ _ _ _ us hl => match us, hl with | [_], _ => rfl
    F27 := F27
    g27 := PySem.W.mg_of X G a27
    b27 := F27.binds (ps := ["box", "share"]) fun _ _ _ _ _ _ us hl => match us, hl with | [_, _], _ => rfl
    F28 := F28
    g28 := PySem.W.mg_of X G a28
    b28 := F28.binds (ps := ["box", "share"]) fun _ _ _ _ _ _ us hl => match us, hl with | [_, _], _ => rfl
    F30 := F30
    g30 := PySem.W.mg_of X G a30
    b30 := F30.binds (ps := ["share"]) fun _ _ _ _ _ _ us hl => match us, hl with | [_], _ => rfl
    F31 := F31
    g31 := PySem.W.mg_of X G a31
    b31 := F31.binds (ps := ["share"]) fun _ _ _ _ _ _ us hl => match us, hl with | [_], _ => rfl
    F32 := F32
    g32 := PySem.W.mg_of X G a32
    b32 := F32.binds (ps := ["box", "share"]) fun _ _ _ _ _ _ us hl => match us, hl with | [_, _], _ => rfl
    F33 := F33
    g33 := PySem.W.mg_of X G a33
    b33 := F33.binds (ps := ["high", "wide", "share"]) fun _ _ _ _ _ _ us hl => match us, hl with | [_, _, _], _ => rfl
    F35 := F35
    g35 := PySem.W.mg_of X G a35
    b35 := F35.binds (ps := ["_law_script"]) fun _ _ _ _ _ _ us hl => match us, hl with | [_], _ => rfl
    F36 := F36
    g36 := PySem.W.mg_of X G a36
    b36 := F36.binds (ps := ["_law_pen_here", "_law_many"]) fun _ _ _ _ _ _ us hl => match us, hl with | [_, _], _ => rfl
    F37 := F37
    g37 := PySem.W.mg_of X G a37
    b37 := F37.binds (ps := ["_law_pen_here", "_law_most"]) fun _ _ _ _ _ _ us hl => match us, hl with | [_, _], _ => rfl
    F38 := F38
    g38 := PySem.W.mg_of X G a38
    b38 := F38.binds (ps := ["_law_rows", "_law_high", "_law_wide"]) fun _ _ _ _ _ _ us hl => match us, hl with | [_, _, _], _ => rfl
    F39 := F39
    g39 := PySem.W.mg_of X G a39
    b39 := F39.binds (ps := ["_law_share_here", "_law_row"]) fun _ _ _ _ _ _ us hl => match us, hl with | [_, _], _ => rfl
    F40 := F40
    g40 := PySem.W.mg_of X G a40
    b40 := F40.binds (ps := ["_law_share_here", "_law_row"]) fun _ _ _ _ _ _ us hl => match us, hl with | [_, _], _ => rfl
    F41 := F41
    g41 := PySem.W.mg_of X G a41
    b41 := F41.binds (ps := ["_law_box", "_law_share_here"]) fun _ _ _ _ _ _ us hl => match us, hl with | [_, _], _ => rfl
    F42 := F42
    g42 := PySem.W.mg_of X G a42
    b42 := F42.binds (ps := ["_law_pen_here", "_law_share_here"]) fun _ _ _ _ _ _ us hl => match us, hl with | [_, _], _ => rfl
    F43 := F43
    g43 := PySem.W.mg_of X G a43
    b43 := F43.binds (ps := ["_law_pen_here"]) fun _ _ _ _ _ _ us hl => match us, hl with | [_], _ => rfl
    F44 := F44
    g44 := PySem.W.mg_of X G a44
    b44 := F44.binds (ps := ["_law_share_here"]) fun _ _ _ _ _ _ us hl => match us, hl with | [_], _ => rfl
    g1 := PySem.W.mg_of X G a1
    g2 := PySem.W.mg_of X G a2
    g3 := PySem.W.mg_of X G a3
    g4 := PySem.W.mg_of X G a4
    g5 := PySem.W.mg_of X G a5
    g6 := PySem.W.mg_of X G a6
    g7 := PySem.W.mg_of X G a7
    g8 := PySem.W.mg_of X G a8
    g9 := PySem.W.mg_of X G a9
    g10 := PySem.W.mg_of X G a10
    g11 := PySem.W.mg_of X G a11
    g12 := PySem.W.mg_of X G a12
    g13 := PySem.W.mg_of X G a13
    g14 := PySem.W.mg_of X G a14
    g15 := PySem.W.mg_of X G a15
    g16 := PySem.W.mg_of X G a16
    g17 := PySem.W.mg_of X G a17
    x3 := x3_
    k3 := k3_
    t3 := t3_
    v3 := v3_
    m3 := m3_
    e3 := ⟨e3_hg_, e3_hk_, e3_hs_, e3_hd_, e3_ha_, e3_hn_, e3_ht_, e3_hm_⟩
    q3_1 := q3_1_
    q3_2 := q3_2_
    q3_3 := q3_3_
    q3_4 := q3_4_
    q3_5 := q3_5_
    q3_6 := q3_6_
    q3_7 := q3_7_
    q3_8 := q3_8_
    q3_9 := q3_9_
    q3_10 := q3_10_
    q3_11 := q3_11_
    q3_12 := q3_12_
    q3_13 := q3_13_
    q3_14 := q3_14_
    q3_15 := q3_15_
    q3_16 := q3_16_
    q3_17 := q3_17_
    x4 := x4_
    k4 := k4_
    t4 := t4_
    v4 := v4_
    m4 := m4_
    e4 := ⟨e4_hg_, e4_hk_, e4_hs_, e4_hd_, e4_ha_, e4_hn_, e4_ht_, e4_hm_⟩
    q4_1 := q4_1_
    q4_2 := q4_2_
    q4_3 := q4_3_
    q4_4 := q4_4_
    q4_5 := q4_5_
    q4_6 := q4_6_
    q4_7 := q4_7_
    q4_8 := q4_8_
    q4_9 := q4_9_
    q4_10 := q4_10_
    q4_11 := q4_11_
    q4_12 := q4_12_
    q4_13 := q4_13_
    q4_14 := q4_14_
    q4_15 := q4_15_
    q4_16 := q4_16_
    q4_17 := q4_17_
    c_MOST_ROWS := ⟨_, PySem.W.mg_of X G z_MOST_ROWS⟩
    c_LONGEST_ROW := ⟨_, PySem.W.mg_of X G z_LONGEST_ROW⟩
    c_LONGEST_SIDE := ⟨_, PySem.W.mg_of X G z_LONGEST_SIDE⟩
    m_ValueError := PySem.W.mg_none_of X G z_ValueError
    m_abs := PySem.W.mg_none_of X G z_abs
    m_all := PySem.W.mg_none_of X G z_all
    m_bool := PySem.W.mg_none_of X G z_bool
    m_enumerate := PySem.W.mg_none_of X G z_enumerate
    m_int := PySem.W.mg_none_of X G z_int
    m_isinstance := PySem.W.mg_none_of X G z_isinstance
    m_len := PySem.W.mg_none_of X G z_len
    m_list := PySem.W.mg_none_of X G z_list
    m_max := PySem.W.mg_none_of X G z_max
    m_min := PySem.W.mg_none_of X G z_min
    m_range := PySem.W.mg_none_of X G z_range
    m_repr := PySem.W.mg_none_of X G z_repr
    m_tuple := PySem.W.mg_none_of X G z_tuple
    m_zip := PySem.W.mg_none_of X G z_zip }
  exact ⟨_, fun s v => .of_eq rfl, fun base _ _ => oklaw T F45⟩
end K14
open PySem PySem.W PyProof.Rows
set_option maxHeartbeats 0 in
theorem PySem.Challenge.cw_gridshares_k14_rows_where_cells_come_and_holds : PySem.Challenge.rw_gridshares_k14_rows_where_cells_come_and.Holds := by
  w_on; o_law; k_head; (case hw => w_witness2)
  k_fill
  refine GS.walkG (l := PySem.Challenge.rw_gridshares_k14_rows_where_cells_come_and) (n := 63) (k := 9) (x := "_law_script") (sp := fun w => K14.sp_law _) rfl (by decide) rfl ⟨rfl, by decide, by decide⟩ (fun w h Y => PySem.W.kIn_of Y) ?F (fun _ _ a ns hl hS => ⟨a, ns, rfl, hS, hl, fun _ => rfl⟩)
  case F =>
    intro w mg fa h KX G hmg
    refine' K14.all_mk KX G hmg ?a19 ?l19 ?c19 ?k19 ?a20 ?l20 ?c20 ?k20 ?a25 ?l25 ?c25 ?k25 ?a26 ?l26 ?c26 ?k26 ?a27 ?l27 ?c27 ?k27 ?a28 ?l28 ?c28 ?k28 ?a30 ?l30 ?c30 ?k30 ?a31 ?l31 ?c31 ?k31 ?a32 ?l32 ?c32 ?k32 ?a33 ?l33 ?c33 ?k33 ?a35 ?l35 ?c35 ?k35 ?a36 ?l36 ?c36 ?k36 ?a37 ?l37 ?c37 ?k37 ?a38 ?l38 ?c38 ?k38 ?a39 ?l39 ?c39 ?k39 ?a40 ?l40 ?c40 ?k40 ?a41 ?l41 ?c41 ?k41 ?a42 ?l42 ?c42 ?k42 ?a43 ?l43 ?c43 ?k43 ?a44 ?l44 ?c44 ?k44 ?a45 ?l45 ?c45 ?k45 ?a1 ?a2 ?a3 ?a4 ?a5 ?a6 ?a7 ?a8 ?a9 ?a10 ?a11 ?a12 ?a13 ?a14 ?a15 ?a16 ?a17 ?x3_ ?k3_ ?t3_ ?v3_ ?m3_ ?e3_hg_ ?e3_hk_ ?e3_hs_ ?e3_hd_ ?e3_ha_ ?e3_hn_ ?e3_ht_ ?e3_hm_ ?q3_1_ ?q3_2_ ?q3_3_ ?q3_4_ ?q3_5_ ?q3_6_ ?q3_7_ ?q3_8_ ?q3_9_ ?q3_10_ ?q3_11_ ?q3_12_ ?q3_13_ ?q3_14_ ?q3_15_ ?q3_16_ ?q3_17_ ?x4_ ?k4_ ?t4_ ?v4_ ?m4_ ?e4_hg_ ?e4_hk_ ?e4_hs_ ?e4_hd_ ?e4_ha_ ?e4_hn_ ?e4_ht_ ?e4_hm_ ?q4_1_ ?q4_2_ ?q4_3_ ?q4_4_ ?q4_5_ ?q4_6_ ?q4_7_ ?q4_8_ ?q4_9_ ?q4_10_ ?q4_11_ ?q4_12_ ?q4_13_ ?q4_14_ ?q4_15_ ?q4_16_ ?q4_17_ ?z_MOST_ROWS ?z_LONGEST_ROW ?z_LONGEST_SIDE ?z_ValueError ?z_abs ?z_all ?z_bool ?z_enumerate ?z_int ?z_isinstance ?z_len ?z_list ?z_max ?z_min ?z_range ?z_repr ?z_tuple ?z_zip
    (case a19 => k_is); (case l19 => k_is); (case c19 => k_is); (case k19 => k_is); (case a20 => k_is); (case l20 => k_is); (case c20 => k_is); (case k20 => k_is); (case a25 => k_is); (case l25 => k_is); (case c25 => k_is); (case k25 => k_is); (case a26 => k_is); (case l26 => k_is); (case c26 => k_is); (case k26 => k_is); (case a27 => k_is); (case l27 => k_is); (case c27 => k_is); (case k27 => k_is); (case a28 => k_is); (case l28 => k_is); (case c28 => k_is); (case k28 => k_is); (case a30 => k_is); (case l30 => k_is); (case c30 => k_is); (case k30 => k_is); (case a31 => k_is); (case l31 => k_is); (case c31 => k_is); (case k31 => k_is); (case a32 => k_is); (case l32 => k_is); (case c32 => k_is); (case k32 => k_is); (case a33 => k_is); (case l33 => k_is); (case c33 => k_is); (case k33 => k_is); (case a35 => k_is); (case l35 => k_is); (case c35 => k_is); (case k35 => k_is); (case a36 => k_is); (case l36 => k_is); (case c36 => k_is); (case k36 => k_is); (case a37 => k_is); (case l37 => k_is); (case c37 => k_is); (case k37 => k_is); (case a38 => k_is); (case l38 => k_is); (case c38 => k_is); (case k38 => k_is); (case a39 => k_is); (case l39 => k_is); (case c39 => k_is); (case k39 => k_is); (case a40 => k_is); (case l40 => k_is); (case c40 => k_is); (case k40 => k_is); (case a41 => k_is); (case l41 => k_is); (case c41 => k_is); (case k41 => k_is); (case a42 => k_is); (case l42 => k_is); (case c42 => k_is); (case k42 => k_is); (case a43 => k_is); (case l43 => k_is); (case c43 => k_is); (case k43 => k_is); (case a44 => k_is); (case l44 => k_is); (case c44 => k_is); (case k44 => k_is); (case a45 => k_is); (case l45 => k_is); (case c45 => k_is); (case k45 => k_is); (case a1 => k_is); (case a2 => k_is); (case a3 => k_is); (case a4 => k_is); (case a5 => k_is); (case a6 => k_is); (case a7 => k_is); (case a8 => k_is); (case a9 => k_is); (case a10 => k_is); (case a11 => k_is); (case a12 => k_is); (case a13 => k_is); (case a14 => k_is); (case a15 => k_is); (case a16 => k_is); (case a17 => k_is); (case x3_ => k_exc); (case k3_ => first | rfl | k_is); (case t3_ => first | rfl | k_is); (case v3_ => first | rfl | k_is); (case m3_ => first | rfl | k_is); (case e3_hg_ => first | rfl | k_is); (case e3_hk_ => first | rfl | k_is); (case e3_hs_ => first | rfl | k_is); (case e3_hd_ => first | rfl | k_is); (case e3_ha_ => first | rfl | k_is); (case e3_hn_ => first | rfl | k_is); (case e3_ht_ => first | rfl | k_is); (case e3_hm_ => first | rfl | k_is); (case q3_1_ => first | rfl | k_is); (case q3_2_ => first | rfl | k_is); (case q3_3_ => first | rfl | k_is); (case q3_4_ => first | rfl | k_is); (case q3_5_ => first | rfl | k_is); (case q3_6_ => first | rfl | k_is); (case q3_7_ => first | rfl | k_is); (case q3_8_ => first | rfl | k_is); (case q3_9_ => first | rfl | k_is); (case q3_10_ => first | rfl | k_is); (case q3_11_ => first | rfl | k_is); (case q3_12_ => first | rfl | k_is); (case q3_13_ => first | rfl | k_is); (case q3_14_ => first | rfl | k_is); (case q3_15_ => first | rfl | k_is); (case q3_16_ => first | rfl | k_is); (case q3_17_ => first | rfl | k_is); (case x4_ => k_exc); (case k4_ => first | rfl | k_is); (case t4_ => first | rfl | k_is); (case v4_ => first | rfl | k_is); (case m4_ => first | rfl | k_is); (case e4_hg_ => first | rfl | k_is); (case e4_hk_ => first | rfl | k_is); (case e4_hs_ => first | rfl | k_is); (case e4_hd_ => first | rfl | k_is); (case e4_ha_ => first | rfl | k_is); (case e4_hn_ => first | rfl | k_is); (case e4_ht_ => first | rfl | k_is); (case e4_hm_ => first | rfl | k_is); (case q4_1_ => first | rfl | k_is); (case q4_2_ => first | rfl | k_is); (case q4_3_ => first | rfl | k_is); (case q4_4_ => first | rfl | k_is); (case q4_5_ => first | rfl | k_is); (case q4_6_ => first | rfl | k_is); (case q4_7_ => first | rfl | k_is); (case q4_8_ => first | rfl | k_is); (case q4_9_ => first | rfl | k_is); (case q4_10_ => first | rfl | k_is); (case q4_11_ => first | rfl | k_is); (case q4_12_ => first | rfl | k_is); (case q4_13_ => first | rfl | k_is); (case q4_14_ => first | rfl | k_is); (case q4_15_ => first | rfl | k_is); (case q4_16_ => first | rfl | k_is); (case q4_17_ => first | rfl | k_is); (case z_MOST_ROWS => k_is); (case z_LONGEST_ROW => k_is); (case z_LONGEST_SIDE => k_is); (case z_ValueError => k_is); (case z_abs => k_is); (case z_all => k_is); (case z_bool => k_is); (case z_enumerate => k_is); (case z_int => k_is); (case z_isinstance => k_is); (case z_len => k_is); (case z_list => k_is); (case z_max => k_is); (case z_min => k_is); (case z_range => k_is); (case z_repr => k_is); (case z_tuple => k_is); (case z_zip => k_is)
