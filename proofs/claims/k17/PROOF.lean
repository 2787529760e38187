import PyProof.Rows.All
import Wide.All
import OpenK.AllK
import Wide.FinOn
import HandS.ForMost
import HandS.Walk
import HandS.Conv
import HandS.Zip
import HandS.TupAny
import HandS.TupMul
import HandS.TupLe
import HandS.IsInst
import HandS.Style
import HandS.Flow
import HandS.Small
import HandS.RaiseMore
import HandS.Evl
import PyProof.ReprRoads
import KE.GoesMore
import HandS.SortRule
import HandS.ForExc
import HandS.ExcIs
import HandS.ExcValue
import KE.KIsAll
import PyProof.CallFns
import KE.KItemsList
import PySem.Challenge.RW_gridshares_k17_what_is_no_cell
set_option Elab.async false
set_option linter.all false
set_option maxRecDepth 100000
set_option maxHeartbeats 4000000
/-! Defs that are called while nothing is being shown (repr): the stack bears no guard. -/
namespace GS
open PySem PySem.Spec PyProof.Rows L2
abbrev Clr (A : Around) : Prop := A.guards = some []
/-- a def's promise, where no repr is under way -/
structure FnG (P : Program) (w : World) (K : PySem.W.Frag) (mg : Str → Option Value) (base : Heap)
    (k : Nat) (f : Addr) (fd : FuncData) (ps : List Str) (sp : Sp) : Prop where
  num : ∀ vs H Q E, sp vs H Q E → vs.length = ps.length
  go : ∀ (A : Around) (fr : List Env) (s : Shared) (H : Hp) (ar : Args) (us : List Value) (vs : List V) (Q : VK) (E : XK),
    Clr A → Room k A → Env0 P w K mg base A fr s H → BindsTo s fd ar (ps.zip us) → Vals vs us →
    sp vs H Q E → codeAny (model P w) A (.call (.ref f) ar) (CR CX0 fr P w H s Q E) s
section
variable {X : Cx} {k : Nat} {f : Addr} {fd : FuncData} {ps : List Str} {sp : Sp} {x : Str} {p pos : Pos} {e : Expr} {es : List Expr} {t : TA}
/-- f(e, ..) of such a def -/
theorem pe_callG (F : FnG X.prog X.w X.K X.mg X.base k f fd ps sp) (hA : Clr X.A) (hr : Room k X.A) (hg : Gl X x)
    (hm : X.mg x = some (.ref f)) (hk : PySem.W.keepIn X.K (.ref f) = true) (hb : Binds X.K fd ps []) (ha : PA X (e :: es) t)
    (hdb : (x == ("__debug__" : Str)) = false := by decide)
    (he : starEach (e :: es) X.env = (false, eval e X.env) :: starEach es X.env := by rfl)
    (hpl : (backTo pos (starEach es X.env)).any (·.1) = false := by rfl) :
    PE X (.Call (.Name x p) (e :: es) [] pos) (tCall sp [] E0 t) := by
  constructor
  intro pins s σ H Q I h
  apply wpAny_Call_Name_kw
  apply ld_glob I hg hm _ hdb
  apply PySem.W.callWith_K (h₀ := X.base) I.ok.mod.kin hk _ he hpl
  apply thn (ha.run pos pins s σ H _ I h)
  rintro us s1 ⟨vs, H1, J, r, q⟩
  refine ⟨J.kIn, wpAny_call ?_⟩
  have q' : sp vs H1 Q E0 := by rw [List.append_nil] at q; exact q
  have hl : (us ++ []).length = ps.length := by rw [List.append_nil, ← r.length]; exact F.num _ _ _ _ q'
  have hbd := hb s1 us J.kIn hl
  rw [List.append_nil] at hbd
  apply codeAny_mono (F.go X.A X.stack s1 H1 ⟨us, []⟩ us vs Q E0 hA hr J.env0 hbd r q')
  intro r' s' z
  match r', z with
  | .error _, z => exact z.elim
  | .ok (.ret u), z => exact J.after z
  | .ok .next, z => exact z.elim
  | .ok .brk, z => exact z.elim
  | .ok .cont, z => exact z.elim
/-- repr(a list or tuple of data) -/
def rShown (K : PySem.W.Frag) : List V → Hp → VK → Prop := fun xs H Q => ∃ (v : V) (d : PyData), xs = [v] ∧ (∃ a, v = .ref a) ∧
    Dp K H v d ∧ d.showable = true ∧ d.hasDict = false ∧ d.depth ≤ 60 ∧ d.shown.length ≤ sizeLine ∧ Q (.str d.shown) H
theorem call_shown (hA : Clr X.A) (hu : X.A.units + 64 < cLine) : CallR X (.builtin "repr") (rShown X.K) := by
  intro pn s σ H xs us Q J r h
  obtain ⟨v, d, rfl, ⟨a, rfl⟩, hd, h1, h2, h3, h4, q⟩ := h
  cases r with
  | cons r1 r2 =>
    cases r2
    cases r1
    obtain ⟨as, rd⟩ := Dp.reads J d _ _ hd rfl
    exact repr_of_reads' rd h1 (PyData.noDict_hsm h2) hA (by omega) (fun _ _ z => z) (fun h' u tk hk => ⟨.str _, H, J.kept hk, ⟨_, rfl⟩, q⟩) h4
/-- what e gives stays locked from there on -/
theorem pe_frz {te : TE} (h : PE X e te) : PE X e (fun σ H Q => te σ H fun v H1 => ∃ d u, H1 d = some u ∧ Mut (some u) ∧ ∀ od, Q v (upd H1 d (.frz od u))) := by
  constructor
  intro pins s σ H Q I hw
  apply thn (h.run pins s σ H _ I hw)
  rintro v s1 ⟨x, H1, J, r, d, u, hd, mu, q⟩
  obtain ⟨od, J2⟩ := J.lock hd mu
  exact ⟨x, _, J2, r, q od⟩
end
section
variable {P : Program} {w : World} {K : PySem.W.Frag} {mg : Str → Option Value} {base : Heap}
/-- such a def by its body -/
theorem okG {x qual : Str} {st : Stmt} {f : Addr} {fd : FuncData} {N ps : List Str} {k : Nat} {sp : Sp} (F : Fun K x qual st f fd)
    (S : FnScope N ps (defScope st)) (num : ∀ vs H Q E, sp vs H Q E → vs.length = ps.length)
    (hb : ∀ (cdv : Value) (A : Around) (fr : List Env) (s : Shared) (H : Hp) (vs : List V) (Q : VK) (E : XK), Clr A →
      Room k (A.deeper (envOfC qual (defScope st) s.heap.objs.size f cdv)) → sp vs H Q E →
      ∃ t, PSs (cxOf CX0 P w K mg base N qual (defScope st) f cdv A fr s H E).nox (defBody st) t ∧ t { nx := fun _ H' => Q .non H', rt := Q } (start N vs) H) :
    FnG P w K mg base (k + 1) f fd ps sp := by
  obtain ⟨oc, od, kV, doc, pm, an, cdv, ct, osl, rfl, lk, hcd⟩ := F.ex
  refine ⟨num, ?_⟩
  intro A fr s H ar us vs Q E hA hr e0 hbd r hsp
  have kept : ∀ b o, base.get? b = some o → s.heap.get? b = some o := fun b o z => (e0.bs b o z).1
  have hK := e0.mod.kin.keeps kept
  refine codeAny_call_function hr.depth (hK _ _ lk) rfl S.co S.gen rfl (PySem.W.codeRec_of hK hcd) (hbd _ _ _ _ ?_)
  refine wpAny_newFunctionEnv_cells S.kind ?_ ?_
  · rintro ⟨n, v⟩ hy
    exact (S.par n (List.of_mem_zip hy).1).imp (fun z => z) fun z => ⟨z, PySem.W.cellsFrom_some _ _ _ (.inl z)⟩
  intro env he s1 ic
  subst he
  refine ⟨(e0.mod.nolimit.keeps kept).keeps ic.toInCall.keep, codeAny_func ?_⟩
  obtain ⟨t, ht, hq⟩ := hb cdv A fr s H vs Q E hA (hr.deeper _) hsp
  have J : Inv (cxOf CX0 P w K mg base N qual (defScope st) f cdv A fr s H E) [] (start N vs) H s1 := inv_start S hr.hd e0 (num _ _ _ _ hsp) r ic
  apply wpAny_mono (ht.nox.run [] s1 (start N vs) H _ J hq) _ fun _ _ z => z
  intro fl s' z
  match fl, z with
  | .ret u, ⟨v, σ', H', J', rv, q⟩ => exact ⟨v, H', J'.os, J'.bare, J'.base, J'.hok, rv, q⟩
  | .next, ⟨σ', H', J', q⟩ => exact ⟨.non, H', J'.os, J'.bare, J'.base, J'.hok, rfl, q⟩
  | .brk, ⟨_, _, _, q⟩ => exact q.elim
  | .cont, ⟨_, _, _, q⟩ => exact q.elim
end
/-- the script alone is tracked, locked, unless the module itself holds it -/
def scriptH (K : PySem.W.Frag) (a : Addr) (vs : List Value) (ns : List Int) : Hp := fun b =>
  if b = a ∧ K.lookup a = none then some (.frz { cls := .type "list", data := .seq vs.toArray } (.lst (ns.map V.int))) else none
theorem scriptH_some {K : PySem.W.Frag} {a b : Addr} {vs : List Value} {ns : List Int} {o : HO} (h : scriptH K a vs ns b = some o) :
    b = a ∧ K.lookup a = none ∧ o = .frz { cls := .type "list", data := .seq vs.toArray } (.lst (ns.map V.int)) := by
  unfold scriptH at h
  by_cases c : b = a ∧ K.lookup a = none
  · rw [if_pos c] at h
    exact ⟨c.1, c.2, (Option.some.inj h).symm⟩
  · rw [if_neg c] at h
    cases h
theorem lawG {P : Program} {w : World} {K : PySem.W.Frag} {mg mb : Str → Option Value} {k : Nat} {fa a : Addr} {fd : FuncData} {x : Str} {sp : Sp} {s₁ : Shared} {vs : List Value} {ns : List Int}
    (KX : K.In s₁.heap) (g1 : s₁.heap.Ns mainGlobals mg) (g2 : s₁.heap.Ns builtinsNs mb) (g3 : ∀ x : Str, x ≠ "__name__" → mb x = bootBuiltins x) (g4 : s₁.heap.NoLimit) (g5 : s₁.gens = #[])
    (ha : s₁.heap.get? a = some { cls := .type "list", data := .seq vs.toArray }) (hi : IntsAre vs ns) (hl : ns.length ≤ sizeLine) (hr : Room k callerA)
    (F : ∀ base : Heap, K.In base → base.Ns mainGlobals mg → FnG P w K mg base k fa fd [x] sp) (hbd : ∀ (s : Shared) (u : Value), BindsTo s fd ⟨[u], []⟩ [(x, u)])
    (hsp : ∀ H : Hp, SqL K H a (ns.map V.int) → sp [.ref a] H (fun v _ => v = .bl true) E0) :
    codeAny (model P w) callerA (.call (.ref fa) ⟨[.ref a], []⟩) (fun r s' => r = .ok (.ret (.bool true)) ∧ OldK s₁.heap s'.heap ∧ s'.os = s₁.os ∧ AllBare s'.gens) s₁ := by
  have rv : Vals (ns.map V.int) vs := vals_ints hi
  have n1 : vs.length = ns.length := hi.length
  let H := scriptH K a vs ns
  have hok : HOk P w H s₁.heap := by
    intro b o z
    obtain ⟨rfl, _, rfl⟩ := scriptH_some z
    exact ⟨ha, by rw [List.length_map]; exact hl, vs, _, rv, ha⟩
  have hS : SqL K H a (ns.map V.int) := by
    cases c : K.lookup a with
    | none => exact .inl (.inr ⟨_, if_pos ⟨rfl, c⟩⟩)
    | some o =>
      have z := KX a o c
      rw [ha] at z
      cases z
      exact .inr ⟨_, vs.toArray, _, c, rfl, rfl, rfl, by rw [List.size_toArray, n1]; exact hl, by simpa using rv⟩
  have away : ∀ {b : Addr} {o : Obj}, s₁.heap.get? b = some o → (∀ q n, o.data ≠ .seq q n) ∨ K.lookup b ≠ none → H b = none := by
    intro b o z hb
    cases q : H b with
    | none => rfl
    | some u =>
      obtain ⟨rfl, c, rfl⟩ := scriptH_some q
      rw [ha] at z
      cases z
      rcases hb with hb | hb
      · exact absurd rfl (hb _ _)
      · exact absurd c hb
  have nsK : ∀ {b : Addr} {m : Str → Option Value}, s₁.heap.Ns b m → (hidT s₁.heap H).Ns b m := by
    rintro b m ⟨o, es, ep, z, d, r⟩
    exact ⟨o, es, ep, hidT_get z (away z (.inl fun q n y => by rw [d] at y; cases y)), d, r⟩
  have hKb : K.In (hidT s₁.heap H) := fun b o z => hidT_get (KX b o z) (away (KX b o z) (.inr (by rw [z]; exact Option.some_ne_none _)))
  obtain ⟨mc, g6, g7⟩ := g4
  have e0 : Env0 P w K mg (hidT s₁.heap H) callerA [] s₁ H := {
    frames := rfl
    mod := ⟨hKb, nsK g1, ⟨mb, nsK g2, g3⟩, ⟨mc, nsK g6, g7⟩⟩
    bs := fun b o z => of_hidT z
    bsz := Nat.le_of_eq (hidT_size _ _)
    funs := trivial
    frf := fun b z => absurd (show b ∈ ([] : List Addr) from z) List.not_mem_nil
    hok := hok
    bare := .of_eq g5 }
  apply codeAny_mono ((F _ hKb (nsK g1)).go callerA [] s₁ H ⟨[.ref a], []⟩ [.ref a] [.ref a] _ _ rfl hr e0 (hbd s₁ (.ref a)) (.cons rfl .nil) (hsp H hS))
  intro r s' z
  match r, z with
  | .error _, z => exact z.elim
  | .ok .next, z => exact z.elim
  | .ok .brk, z => exact z.elim
  | .ok .cont, z => exact z.elim
  | .ok (.ret u), ⟨v, H', os, bare, un, hok', r', q⟩ =>
    obtain rfl : v = .bl true := q
    obtain rfl : u = Value.bool true := r'
    refine ⟨rfl, OldK.of_keep ?_, os, bare⟩
    intro b o z
    cases c : H b with
    | none => exact un.keep b o z c (fun y => absurd (show b ∈ ([] : List Addr) from y) List.not_mem_nil) List.not_mem_nil
    | some o' =>
      obtain ⟨_, _, rfl⟩ := scriptH_some c
      have c1 := (hok b _ c).1
      have c2 := (hok' b _ (un.frzs b _ _ c)).1
      rw [z] at c1
      cases c1
      exact c2
/-- the goal behind k_head -/
theorem walkG {l : PySem.W.OpenLaw} {n k : Nat} {q : Program} {loose : List Str} {XP : (Str → Option Value) → Heap → Prop} {YP : World → Heap → Prop} {d : DefRec} {K : Params → PySem.W.Frag} {sp : World → Sp} {x : Str}
    (hn : l.most = some n) (hn2 : n ≤ sizeLine) (hdf : d.params.defaults = []) (hr : Room k callerA) (hY : ∀ (w : World) (h : Heap), YP w h → (K w.params).In h)
    (F : ∀ (w : World) (mg : Str → Option Value) (fa : Addr) (h : Heap), (K w.params).In h → h.Ns mainGlobals mg → mg d.name = some (.ref fa) →
      ∃ fd : FuncData, (∀ (s : Shared) (u : Value), BindsTo s fd ⟨[u], []⟩ [(x, u)]) ∧ ∀ base : Heap, (K w.params).In base → base.Ns mainGlobals mg → FnG l.prog w (K w.params) mg base k fa fd [x] (sp w))
    (hsp : ∀ (w : World) (H : Hp) (a : Addr) (ns : List Int), ns.length ≤ n → SqL (K w.params) H a (ns.map V.int) → sp w [.ref a] H (fun v _ => v = .bl true) E0) :
    PySem.W.WalkO q loose XP YP l.row.toRowW d [] (fun f vs => PySem.call f vs) := by
  apply Att.attach_call hn hdf
  intro w s₀ s₁ mg mb fa o pm cd doc a vs ns G Y ho hd hcd hmg hobj hints hlen hg
  obtain ⟨fd, hb, hF⟩ := F w mg fa _ (hY w _ Y) G.T.g hmg
  exact lawG (hY w _ Y) G.T.g G.T.b G.T.builtins G.T.nolimit hg hobj hints (Nat.le_trans hlen hn2) hr hF hb fun H hS => hsp w H a ns hlen hS
end GS
namespace GS
open PySem PySem.Spec PyProof.Rows L2 RZ
/-! what the built-in names stand for -/
theorem bt_len : bootBuiltins "len" = some (.builtin "len") := by decide +kernel
theorem bt_abs : bootBuiltins "abs" = some (.builtin "abs") := by decide +kernel
theorem bt_max : bootBuiltins "max" = some (.builtin "max") := by decide +kernel
theorem bt_min : bootBuiltins "min" = some (.builtin "min") := by decide +kernel
theorem bt_sum : bootBuiltins "sum" = some (.builtin "sum") := by decide +kernel
theorem bt_all : bootBuiltins "all" = some (.builtin "all") := by decide +kernel
theorem bt_any : bootBuiltins "any" = some (.builtin "any") := by decide +kernel
theorem bt_repr : bootBuiltins "repr" = some (.builtin "repr") := by decide +kernel
theorem bt_isinstance : bootBuiltins "isinstance" = some (.builtin "isinstance") := by decide +kernel
theorem bt_int : bootBuiltins "int" = some (.type "int") := by decide +kernel
theorem bt_bool : bootBuiltins "bool" = some (.type "bool") := by decide +kernel
theorem bt_tuple : bootBuiltins "tuple" = some (.type "tuple") := by decide +kernel
theorem bt_list : bootBuiltins "list" = some (.type "list") := by decide +kernel
theorem bt_str : bootBuiltins "str" = some (.type "str") := by decide +kernel
theorem bt_dict : bootBuiltins "dict" = some (.type "dict") := by decide +kernel
/-! heaps: all but p is kept -/
def Kp (p : Addr) (H H' : Hp) : Prop := ∀ b o, b ≠ p → H b = some o → H' b = some o
theorem Kp.refl (p : Addr) (H : Hp) : Kp p H H := fun _ _ _ h => h
theorem Kp.trans {p : Addr} {H H1 H2 : Hp} (a : Kp p H H1) (b : Kp p H1 H2) : Kp p H H2 := fun c o n h => b c o n (a c o n h)
theorem Kp.of {p : Addr} {H H' : Hp} (s : Same H H') : Kp p H H' := fun b o _ h => s b o h
theorem kp_upd {p : Addr} {H : Hp} {o : HO} : Kp p H (upd H p o) := fun b u n h => by rw [upd_ne n]; exact h
theorem kp_new {p q : Addr} {H : Hp} {o : HO} (h : H q = none) : Kp p H (upd H q o) := fun b u n e => by rw [upd_ne (ne_of_none e h)]; exact e
theorem same_new {q : Addr} {H : Hp} {o : HO} (h : H q = none) : Same H (upd H q o) := fun b u e => by rw [upd_ne (ne_of_none e h)]; exact e
theorem sameT {K : PySem.W.Frag} {H H' : Hp} {a : Addr} {xs : List V} (e : Same H H') (h : SqT K H a xs) : SqT K H' a xs := by
  rcases h with (h | ⟨o, h⟩) | h
  · exact .inl (.inl (e _ _ h))
  · exact .inl (.inr ⟨o, e _ _ h⟩)
  · exact .inr h
/-! zip of two tuples -/
theorem walk_zipT {K : PySem.W.Frag} {a b : Addr} {xs ys : List V} : Walk (ItzT K a b) (min xs.length ys.length) (fun H => SqT K H a xs ∧ SqT K H b ys) (YPair (fun i => xs[i]?) (fun i => ys[i]?)) := by
  constructor
  · intro i H hi q
    exact ⟨xs, ys, xs[i]'(by omega), ys[i]'(by omega), q.1, q.2, by simp [show i < xs.length by omega], by simp [show i < ys.length by omega]⟩
  · intro H q
    exact ⟨xs, ys, q.1, q.2, by omega⟩
  · rintro i H v H' hi q ⟨T, x, y, h1, h2, h3, h4, h5⟩
    exact ⟨T, x, y, h1, h2, h3, h4 xs q.1, h5 ys q.2⟩
/-! a list that a comprehension makes: its turns so far -/
def Grow (H0 : Hp) (D : Addr) (acc : Nat → List V) (i : Nat) (H : Hp) : Prop := Same H0 H ∧ H D = some (.lst (acc i))
theorem Grow.start {H0 : Hp} {D : Addr} {acc : Nat → List V} (nD : H0 D = none) (h : acc 0 = []) : Grow H0 D acc 0 (upd H0 D (.lst [])) :=
  ⟨same_new nD, by rw [upd_same, h]⟩
theorem Grow.put {H0 H H4 : Hp} {D : Addr} {acc : Nat → List V} {i : Nat} {y : V} (g : Grow H0 D acc i H) (nD : H0 D = none) (s : Same H H4) (h : acc (i + 1) = acc i ++ [y]) :
    Grow H0 D acc (i + 1) (upd H4 D (.lst (acc i ++ [y]))) := by
  refine ⟨fun b o e => ?_, by rw [upd_same, h]⟩
  rw [upd_ne (ne_of_none e nD)]
  exact s _ _ (g.1 _ _ e)
theorem Grow.skip {H0 H H4 : Hp} {D : Addr} {acc : Nat → List V} {i : Nat} (g : Grow H0 D acc i H) (s : Same H H4) (h : acc (i + 1) = acc i) : Grow H0 D acc (i + 1) H4 :=
  ⟨g.1.trans s, by rw [h]; exact s _ _ g.2⟩
/-! data that is shown: of at most n signs, at most k deep -/
structure Sm (n k : Nat) (d : PyData) : Prop where
  a : d.showable = true
  b : d.hasDict = false
  c : d.depth ≤ k
  d : d.shown.length ≤ n
theorem Sm.int {i : Int} (h : i.natAbs < 10 ^ 12) : Sm 13 0 (.int i) := by
  refine ⟨?_, rfl, Nat.le_refl _, PyData.shown_int_le h⟩
  show decide (i.natAbs.log2 < 1920) = true
  exact decide_eq_true (log2_small (Nat.lt_of_lt_of_le h (Nat.le_trans (show 10 ^ 12 ≤ 2 ^ 40 by decide) (Nat.pow_le_pow_right (by decide) (by decide)))))
theorem Sm.more {n n' k k' : Nat} {d : PyData} (h : Sm n k d) (h1 : n ≤ n') (h2 : k ≤ k') : Sm n' k' d := ⟨h.a, h.b, Nat.le_trans h.c h2, Nat.le_trans h.d h1⟩
theorem sm_all {n k : Nat} : ∀ {ds : List PyData}, (∀ d ∈ ds, Sm n k d) → PyData.showableAll ds = true ∧ PyData.hasDictAll ds = false ∧ PyData.depthAll ds ≤ k ∧ ((PyData.shownAll ds).map (·.length)).sum ≤ n * ds.length ∧ (PyData.shownAll ds).length = ds.length
  | [], _ => ⟨rfl, rfl, Nat.zero_le _, Nat.zero_le _, rfl⟩
  | d :: ds, h => by
    obtain ⟨h1, h2, h3, h4, h5⟩ := sm_all (ds := ds) fun e m => h e (List.mem_cons_of_mem _ m)
    have q := h d List.mem_cons_self
    refine ⟨by simp only [PyData.showableAll, q.a, h1, Bool.and_self], by simp only [PyData.hasDictAll, q.b, h2, Bool.or_self], ?_, ?_, by simp only [PyData.shownAll, List.length_cons, h5]⟩
    · simp only [PyData.depthAll]
      have := q.c
      omega
    · simp only [PyData.shownAll, List.map_cons, List.sum_cons, List.length_cons]
      have e := q.d
      rw [Nat.mul_add]
      omega
theorem Sm.tuple {n k : Nat} {ds : List PyData} (h : ∀ d ∈ ds, Sm n k d) : Sm (n * ds.length + 2 * ds.length + 3) (k + 1) (.tuple ds) := by
  obtain ⟨h1, h2, h3, h4, h5⟩ := sm_all h
  refine ⟨by simpa only [PyData.showable] using h1, by simpa only [PyData.hasDict] using h2, by simp only [PyData.depth]; omega, ?_⟩
  simp only [PyData.shown]
  have := tupleText_len_le (PyData.shownAll ds)
  rw [h5] at this
  omega
theorem Sm.list {n k : Nat} {ds : List PyData} (h : ∀ d ∈ ds, Sm n k d) : Sm (n * ds.length + 2 * ds.length + 3) (k + 1) (.list ds) := by
  obtain ⟨h1, h2, h3, h4, h5⟩ := sm_all h
  refine ⟨by simpa only [PyData.showable] using h1, by simpa only [PyData.hasDict] using h2, by simp only [PyData.depth]; omega, ?_⟩
  simp only [PyData.shown]
  have := listText_len_le (PyData.shownAll ds)
  rw [h5] at this
  omega
theorem sm_ints {B : Nat} {xs : List Int} (h : ∀ x ∈ xs, x.natAbs ≤ B) (hB : B < 10 ^ 12) : ∀ d ∈ xs.map PyData.int, Sm 13 0 d := by
  intro d m
  obtain ⟨x, hx, rfl⟩ := List.mem_map.mp m
  exact Sm.int (Nat.lt_of_le_of_lt (h x hx) hB)
theorem dpAll_ints {K : PySem.W.Frag} {H : Hp} : ∀ xs : List Int, DpAll K H (xs.map V.int) (xs.map PyData.int)
  | [] => .nil
  | x :: xs => .cons (.int x) (dpAll_ints xs)
theorem dp_tup {K : PySem.W.Frag} {H : Hp} {a : Addr} {xs : List Int} (h : SqT K H a (xs.map V.int)) : Dp K H (.ref a) (.tuple (xs.map PyData.int)) := .tup h (dpAll_ints xs)
theorem dp_lst {K : PySem.W.Frag} {H : Hp} {a : Addr} {xs : List Int} (h : SqL K H a (xs.map V.int)) : Dp K H (.ref a) (.list (xs.map PyData.int)) := .lst h (dpAll_ints xs)
theorem canLay_ints : ∀ xs : List Int, PyData.canLayAll0 (xs.map PyData.int) = true ∧ PyData.depthAll (xs.map PyData.int) = 0
  | [] => ⟨rfl, rfl⟩
  | x :: xs => by
    obtain ⟨h1, h2⟩ := canLay_ints xs
    constructor
    · simp only [List.map_cons, PyData.canLayAll0, PyData.canLay0, h1, Bool.and_self]
    · simp only [List.map_cons, PyData.depthAll, PyData.depth, h2, Nat.max_self]
theorem shaped_lst (xs : List Int) : SeqAt.shaped (.list (xs.map PyData.int)) = true := by
  obtain ⟨h1, h2⟩ := canLay_ints xs
  unfold SeqAt.shaped
  rw [Bool.and_eq_true, decide_eq_true_eq]
  exact ⟨by simp only [PyData.canLay0, h1], by simp only [PyData.depth, h2]; omega⟩
theorem shaped_tup (xs : List Int) : SeqAt.shaped (.tuple (xs.map PyData.int)) = true := by
  obtain ⟨h1, h2⟩ := canLay_ints xs
  unfold SeqAt.shaped
  rw [Bool.and_eq_true, decide_eq_true_eq]
  exact ⟨by simp only [PyData.canLay0, h1], by simp only [PyData.depth, h2]; omega⟩
theorem eqvAll_ints : ∀ xs ys : List Int, PyData.eqvAll (xs.map PyData.int) (ys.map PyData.int) = decide (xs = ys)
  | [], [] => by simp [PyData.eqvAll]
  | [], _ :: _ => by simp [PyData.eqvAll]
  | _ :: _, [] => by simp [PyData.eqvAll]
  | x :: xs, y :: ys => by
    simp only [List.map_cons, PyData.eqvAll, PyData.eqv, eqvAll_ints xs ys, List.cons.injEq]
    by_cases h : x = y
    · subst h; simp
    · simp [h]
theorem small_line {n : Nat} (h : n ≤ 100000) : n ≤ sizeLine := by rw [sizeLine_eq]; omega
theorem small_lt {n : Nat} (h : n ≤ 100000) : n < sizeLine := by rw [sizeLine_eq]; omega
theorem at_get {xs : List V} {i : Int} {v : V} (h0 : 0 ≤ i) (h : xs[i.toNat]? = some v) : atI xs i = some v := by
  have e : i = ((i.toNat : Nat) : Int) := by omega
  rw [e]
  exact atI_nat h
theorem ix_in {n : Nat} {i : Int} (h0 : 0 ≤ i) (h1 : i < n) : ixN n i = some i.toNat := by
  unfold ixN
  rw [if_pos h0, if_pos h1]
end GS
namespace GS
open PySem PySem.Spec PyProof.Rows L2 RZ
/-! t * k: the same tuple for 1, an empty one for 0 -/
theorem tmul_same (l : Addr) (items : Array Value) (n : Nat) (dd : Option Addr) (sl : Array (Option Value)) (u : Tok) :
    Meets (Builtin.«tuple.__mul__» ⟨[.ref l, .int 1 u], []⟩) (fun _ R s => s.heap.get? l = some { cls := .type "tuple", dict := dd, data := .seq items n, slots := sl } ∧ R (.ok (.ret (Value.ref l))) s) :=
  .of_wp fun prog w A R s h => by
    obtain ⟨hp, g, d, tk, os⟩ := s
    obtain ⟨hl, h⟩ := h
    have f1 := AutoSeq1.idx_int
    wp_walk using wpAny_loadPart' hl
    repeat (first
      | (refine wpAny_ite_false (by decide) ?_; wp_walk using wpAny_loadPart' hl)
      | (refine wpAny_ite_true (decide_eq_true (Bool.or_true _)) ?_; wp_walk using wpAny_loadPart' hl)
      | (refine wpAny_ite_true (by decide) ?_; wp_walk using wpAny_loadPart' hl))
    exact ⟨_, rfl, h⟩
theorem tmul_none (l : Addr) (items : Array Value) (n : Nat) (dd : Option Addr) (sl : Array (Option Value)) (u : Tok) (c1 : items.isEmpty = false) :
    Meets (Builtin.«tuple.__mul__» ⟨[.ref l, .int 0 u], []⟩) (fun _ R s => s.heap.get? l = some { cls := .type "tuple", dict := dd, data := .seq items n, slots := sl } ∧
      R (.ok (.ret (Value.ref s.heap.objs.size))) { s with heap := s.heap.push { cls := Value.type "tuple", data := Data.seq #[] }, toks := s.toks }) :=
  .of_wp fun prog w A R s h => by
    obtain ⟨hp, g, d, tk, os⟩ := s
    obtain ⟨hl, h⟩ := h
    have f1 := AutoSeq1.idx_int
    wp_walk using wpAny_loadPart' hl
    repeat (first
      | (refine wpAny_ite_false (by decide) ?_; wp_walk using wpAny_loadPart' hl)
      | (refine wpAny_ite_false (decide_eq_false (by rw [c1]; decide)) ?_; wp_walk using wpAny_loadPart' hl)
      | (refine wpAny_ite_true (by decide) ?_; wp_walk using wpAny_loadPart' hl))
    exact ⟨_, rfl, h⟩
def rRepA (K : PySem.W.Frag) : R2 := fun x y H Q => ∃ l k xs, x = .ref l ∧ y = .int k ∧ H l = some (.tup xs) ∧ xs ≠ [] ∧ 0 ≤ k ∧ k ≤ 1000 ∧ xs.length ≤ 1000 ∧
  ∀ H' c, Same H H' → H' c = some (.tup (List.replicate k.toNat xs).flatten) → Q (.ref c) H'
section
variable {X : Cx}
theorem op_repA : OpR X (binaryOp .Mult) (rRepA X.K) := by
  intro pn s σ H x y v u Q J rx ry h
  obtain ⟨l, k, xs, rfl, rfl, hl, hne, h0, h2, hz, q⟩ := h
  have hT : SqT X.K H l xs := SqT.of hl
  by_cases hk : 2 ≤ k
  · exact op_repT pn s σ H _ _ v u Q J rx ry ⟨l, k, xs, rfl, rfl, hT, hne, hk, h2, hz, fun p np => q _ p (same_new np) upd_same⟩
  cases rx
  obtain ⟨t, rfl⟩ := ry
  obtain ⟨its, r, ⟨⟨cls, dd, data, sl⟩, ho, hc, n, hd⟩, hs⟩ := J.tuple hT
  simp only at hc hd
  subst hc hd
  have hi : its.toArray.isEmpty = false := by
    cases its with
    | nil => exact absurd (List.eq_nil_of_length_eq_zero r.length) hne
    | cons a b => rfl
  rcases (show k = 0 ∨ k = 1 by omega) with rfl | rfl
  · refine wpAny_binaryOp_repeat_ref (T := "tuple") (U := "int") (by decide) ⟨_, ho, rfl⟩ (fun s' => typeIs_int s' 0 t) noFill_tuple_mul F.fills_int_mul F.slot_int_rmul repeat_tuple F.slot_int_index.lookup
      (call_meets F.slot_int_rmul (typeIs_int s 0 t) F.entry_int_rmul (F.args_int_rmul_2 _ _) (int_rmul_tuple 0 t l its.toArray n dd sl)
        ⟨ho, rfl, ⟨_, ho, rfl⟩, call_meets F.slot_tuple_mul ⟨_, ho, rfl⟩ F.entry_tuple_mul (F.args_tuple_mul_2 _ _) (tmul_none l its.toArray n dd sl t hi) ⟨ho, ?_⟩⟩)
    refine ⟨.ref s.heap.objs.size, _, J.laid (t' := s.toks) (o := .tup []) (fun b ob z => Heap.get?_push_of_some _ z) (Nat.le_refl _) ?_, rfl, q _ _ (same_new (J.hok.fresh (Nat.le_refl _))) upd_same⟩
    exact ⟨Nat.zero_le _, [], .nil, IsTup.new _ _⟩
  · refine wpAny_binaryOp_repeat_ref (T := "tuple") (U := "int") (by decide) ⟨_, ho, rfl⟩ (fun s' => typeIs_int s' 1 t) noFill_tuple_mul F.fills_int_mul F.slot_int_rmul repeat_tuple F.slot_int_index.lookup
      (call_meets F.slot_int_rmul (typeIs_int s 1 t) F.entry_int_rmul (F.args_int_rmul_2 _ _) (int_rmul_tuple 1 t l its.toArray n dd sl)
        ⟨ho, rfl, ⟨_, ho, rfl⟩, call_meets F.slot_tuple_mul ⟨_, ho, rfl⟩ F.entry_tuple_mul (F.args_tuple_mul_2 _ _) (tmul_same l its.toArray n dd sl t) ⟨ho, ?_⟩⟩)
    refine ⟨.ref l, H, J, rfl, q H l (Same.refl _) ?_⟩
    have e : (List.replicate (1 : Int).toNat xs).flatten = xs := by simp
    rw [e]
    exact hl
/-- sum of a tuple of ints -/
theorem cr_sumT (hc : X.calm = true) : CallR X (.builtin "sum") (fun vs H Q => ∃ (a : Addr) (ns : List Int), vs = [V.ref a] ∧ SqT X.K H a (ns.map V.int) ∧ Q (.int ns.sum) H) := by
  intro pn s σ H vs us Q J r h
  obtain ⟨a, ns, rfl, hs, q⟩ := h
  obtain ⟨its, rv, p, _⟩ := J.tuple hs
  rw [Vals.ref1 r]
  have hn : its.length = ns.length := by rw [← rv.length, List.length_map]
  have hT : s.heap.IsTuple a its.toArray := p
  refine call_sum_walkG (wpAny_pyIter_tuple hT ?_)
  have hlt : a < s.heap.objs.size := by obtain ⟨o, ho, _⟩ := hT; exact Heap.lt_size ho
  refine ⟨s.heap.objs.size, _, _, _, _, _, fun i => ns.getD i 0, rfl, Walks.tuple (A := X.A.in1) (J.ok.hd hc) _ a (Nat.ne_of_lt hlt) its.toArray, ⟨⟨_, Heap.get?_push_size _ rfl, rfl, rfl⟩, ?_⟩, ?_, ?_, ?_⟩
  · obtain ⟨o, ho, z⟩ := hT
    exact ⟨o, Heap.get?_push_of_some _ ho, z⟩
  · intro b hb
    have e : b = s.heap.objs.size ∨ b = a := by simpa using hb
    have : (s.heap.push { cls := .type "tuple_iterator", data := .fields #[.ref a, .int 0 0] }).objs.size = s.heap.objs.size + 1 := Heap.size_push ..
    show b < (s.heap.push { cls := .type "tuple_iterator", data := .fields #[.ref a, .int 0 0] }).objs.size
    rw [this]
    rcases e with e | e
    · rw [e]
      exact Nat.lt_succ_self _
    · rw [e]
      exact Nat.lt_succ_of_lt hlt
  · intro i v hv
    have hv' : its[i]? = some v := by simpa using hv
    have hi : i < ns.length := by
      have := (List.getElem?_eq_some_iff.mp hv').1
      omega
    obtain ⟨u, hu, ru⟩ := rv.get (i := i) (x := .int ns[i]) (by rw [List.getElem?_map, List.getElem?_eq_getElem hi]; rfl)
    rw [hv'] at hu
    cases hu
    obtain ⟨t, rfl⟩ := ru
    refine ⟨t, ?_⟩
    show Value.int ns[i] t = Value.int (ns.getD i 0) t
    rw [List.getD_eq_getElem?_getD, List.getElem?_eq_getElem hi]
    rfl
  · intro h' tk t' hk
    have e : preSum (fun i => ns.getD i 0) its.toArray.size = ns.sum := by
      rw [preSum_getD, List.size_toArray, hn, List.take_of_length_le (Nat.le_refl _)]
    rw [e]
    refine ⟨.int _, H, J.kept fun b o z => hk b o ?_ (Heap.get?_push_of_some _ z), ⟨_, rfl⟩, q⟩
    intro y
    have : b = s.heap.objs.size := by simpa using y
    exact absurd (Heap.lt_size z) (by rw [this]; exact Nat.lt_irrefl _)
end
theorem cut_take {xs : List V} {i : Int} (h : 0 ≤ i) : cutV xs none (some i) = xs.take i.toNat := by
  obtain ⟨k, rfl⟩ : ∃ k : Nat, i = k := ⟨i.toNat, by omega⟩
  unfold cutV
  rw [HT.sIx_none, HT.sIx_nat, Int.toNat_natCast, List.drop_zero, Nat.sub_zero]
  rcases Nat.le_total k xs.length with z | z
  · rw [Nat.min_eq_left z]
  · rw [Nat.min_eq_right z, List.take_of_length_le (Nat.le_refl _), List.take_of_length_le z]
theorem cut_drop {xs : List V} {i : Int} (h : 0 ≤ i) : cutV xs (some i) none = xs.drop i.toNat := by
  obtain ⟨k, rfl⟩ : ∃ k : Nat, i = k := ⟨i.toNat, by omega⟩
  unfold cutV
  rw [HT.sIx_none, HT.sIx_nat, Int.toNat_natCast]
  rcases Nat.le_total k xs.length with z | z
  · rw [Nat.min_eq_left z]
    exact List.take_of_length_le (by rw [List.length_drop]; exact Nat.le_refl _)
  · rw [Nat.min_eq_right z, List.drop_of_length_le (Nat.le_refl _), List.drop_of_length_le z]
    simp
theorem rd_slA {K : PySem.W.Frag} {H : Hp} {a : Addr} {xs : List V} {lo hi : Option Int} {Q : VK} (ha : H a = some (.tup xs)) (h : ∀ H' c, Same H H' → H' c = some (.tup (cutV xs lo hi)) → Q (.ref c) H') :
    rSlA K (.ref a) lo hi H Q := by
  refine ⟨a, xs, rfl, SqT.of ha, fun z => h H a (Same.refl _) ?_, fun _ p np => h _ p (same_new np) upd_same⟩
  rw [ha]
  unfold cutV
  rw [z.1, z.2, List.drop_zero, Nat.sub_zero, List.take_of_length_le (Nat.le_refl _)]
theorem rd_catA {K : PySem.W.Frag} {H : Hp} {a b : Addr} {xs ys : List V} {Q : VK} (ha : H a = some (.tup xs)) (hb : H b = some (.tup ys)) (hl : xs.length + ys.length ≤ sizeLine) (h : ∀ H' c, Same H H' → H' c = some (.tup (xs ++ ys)) → Q (.ref c) H') :
    rCatA K (.ref a) (.ref b) H Q :=
  ⟨a, b, xs, ys, rfl, rfl, SqT.of ha, SqT.of hb, hl, fun z => h H b (Same.refl _) (by rw [hb, z]; rfl), fun _ z => h H a (Same.refl _) (by rw [ha, z, List.append_nil]), fun _ _ p np => h _ p (same_new np) upd_same⟩
/-! by named readings, for comprehensions' blocks -/
def rLenS (K : PySem.W.Frag) : List V → Hp → VK → Prop := fun xs H Q => ∃ p ys, xs = [.ref p] ∧ (SqL K H p ys ∨ SqT K H p ys) ∧ Q (.int ys.length) H
theorem len_seq {X : Cx} : CallR X (.builtin "len") (rLenS X.K) := call_len_seq
def rTupO (K : PySem.W.Frag) : List V → Hp → VK → Prop := fun xs H Q => ∃ p ys, xs = [.ref p] ∧ ((SqL K H p ys ∧ ∀ l, H l = none → Q (.ref l) (upd H l (.tup ys))) ∨ (SqT K H p ys ∧ Q (.ref p) H))
theorem tup_of {X : Cx} : CallR X (.type "tuple") (rTupO X.K) := call_tuple_of
def rLstO (K : PySem.W.Frag) : List V → Hp → VK → Prop := fun xs H Q => ∃ p ys, xs = [.ref p] ∧ (SqL K H p ys ∨ SqT K H p ys) ∧ ∀ l, H l = none → Q (.ref l) (upd H l (.lst ys))
theorem lst_of {X : Cx} : CallR X (.type "list") (rLstO X.K) := call_list_of
/-- what is new may change -/
theorem kp_same {p : Addr} {H H1 H2 : Hp} (np : H p = none) (s : Same H H1) (k : Kp p H1 H2) : Same H H2 := fun b o e => k b o (ne_of_none e np) (s b o e)
/-- a constant of the module -/
theorem pe_cst {X : Cx} {x : Str} {i : Int} {pos : Pos} (hg : Gl X x) (h : ∃ t, X.mg x = some (.int i t)) (hd : (x == ("__debug__" : Str)) = false := by decide) : PE X (.Name x pos) (tC (.int i)) := by
  obtain ⟨t, e⟩ := h
  exact pe_glob (v := .int i) hg e ⟨t, rfl⟩ hd
end GS
namespace GS
open PySem PySem.Spec PyProof.Rows L2 RZ
open AutoSeq1 (wpAny_loadPart')
/-! enumerate(tuple) -/
theorem meets_enumT (l : Addr) (items : Array Value) (n : Nat) (dct : Option Addr) (sl : Array (Option Value)) :
    Meets (Builtin.«enumerate.__new__» ⟨[.type "enumerate", .ref l], []⟩) (fun _ R s => s.heap.get? l = some { cls := .type "tuple", dict := dct, data := .seq items n, slots := sl } ∧
      R (.ok (.ret (.ref (s.heap.push { cls := .type "tuple_iterator", data := .fields #[.ref l, .int 0 0] }).objs.size)))
        { s with heap := (s.heap.push { cls := .type "tuple_iterator", data := .fields #[.ref l, .int 0 0] }).push { cls := .type "enumerate", data := .fields #[.none, .bool false, .ref s.heap.objs.size, rawInt 0, .none, .none] } }) :=
  .of_wp fun prog w A R s h => by
    obtain ⟨hp, g, d, tk, os⟩ := s
    obtain ⟨hl, h⟩ := h
    have hsub := sub_enumerate
    have hT : Heap.IsTuple (Shared.heap ⟨hp, g, d, tk, os⟩) l items := ⟨_, hl, rfl, n, rfl⟩
    wp_walk using wpAny_loadPart' hl
    refine wpAny_stack_any fun st => wpAny_pure ?_
    split
    · rename_i c _ _ _ _ _
      cases (c == Value.type "enumerate") <;> (wp_walk using wpAny_loadPart' hl, wpAny_pyIter_tuple hT) <;> exact ⟨_, rfl, h⟩
    · wp_walk using wpAny_loadPart' hl, wpAny_pyIter_tuple hT
      exact ⟨_, rfl, h⟩
section
variable {prog : Program} {w : World} {A : Around} {E : Value → Shared → Prop} {s : Shared}
theorem call_enumT {l : Addr} {items : Array Value} {Q : Value → Shared → Prop} (hL : s.heap.IsTuple l items)
    (h : ∀ h', IsEnum h' (s.heap.objs.size + 1) s.heap.objs.size 0 .none → h'.IsTupleIter s.heap.objs.size l 0 → (∀ b o, s.heap.get? b = some o → h'.get? b = some o) → Q (.ref (s.heap.objs.size + 1)) { s with heap := h' }) :
    wpAny (model prog w) A (call (.type "enumerate") [.ref l]) Q E s := by
  obtain ⟨⟨c, dct, dt, sl⟩, hl, hc, n, hd⟩ := hL
  obtain rfl : c = .type "tuple" := hc
  obtain rfl : dt = .seq items n := hd
  refine callType_new F.called_enumerate (by decide) (F.typeCall_enumerate_1 _) (F.newCall_enumerate_1 _) (fun obj => F.args_object_init_2 obj _) F.entry_enumerate_new (meets_enumT l items n dct sl) ⟨hl, ?_⟩
  let g1 := s.heap.push { cls := .type "tuple_iterator", data := .fields #[.ref l, .int 0 0] }
  let o2 : Obj := { cls := .type "enumerate", data := .fields #[.none, .bool false, .ref s.heap.objs.size, rawInt 0, .none, .none] }
  have hz : g1.objs.size = s.heap.objs.size + 1 := Heap.size_push ..
  have he : (g1.push o2).get? (s.heap.objs.size + 1) = some o2 := by rw [← hz]; exact Heap.get?_push_size _ rfl
  show Shared.TypeIs { s with heap := g1.push o2 } (.ref g1.objs.size) "enumerate" ∧ _
  rw [hz]
  exact ⟨⟨o2, he, rfl⟩, h _ he ⟨_, Heap.get?_push_of_some _ (Heap.get?_push_size _ rfl), rfl, rfl⟩ fun b o x => Heap.get?_push_of_some _ (Heap.get?_push_of_some _ x)⟩
end
section
variable {prog : Program} {w : World} {A : Around} {E : Value → Shared → Prop} {s : Shared}
theorem enumT_end {e it l : Addr} {i : Int} {j : Nat} {items : Array Value} {old : Value} {Q : Option Value → Shared → Prop} (hh : A.handled = none)
    (he : IsEnum s.heap e it i old) (hit : s.heap.IsTupleIter it l j) (hl : s.heap.IsTuple l items) (hx : items[j]? = none)
    (hQ : ∀ h', Heap.ExtBut it s.heap h' → Q none { s with heap := h' }) : wpAny (model prog w) A (pyNext (.ref e)) Q E s := by
  have tE : s.TypeIs (.ref e) "enumerate" := ⟨_, he, rfl⟩
  unfold pyNext
  apply wpAny_bind
  apply wpAny_attempt
  apply wpAny_callSpecial?_slot (name := Str.ofString "__next__") tE F.slot_enumerate_next
  apply wpAny_call_entry F.slot_enumerate_next tE F.entry_enumerate_next _ (F.args_enumerate_next_1 _)
  show wpAny _ _ (field (.ref e) 2 >>= _) _ _ _
  apply wpAny_bind
  apply wpAny_field he rfl (x := .ref it) rfl
  apply wpAny_bind
  apply wpAny_nextOf_tuple_end (A := A.in1) (show A.in1.handled = none from hh) hit hl hx
  rintro h' x eb ⟨o, ho, hc⟩
  refine wpAny_bind ?_
  refine wpAny_isInstance (T := "StopIteration") (b := true) (v := .ref x) ⟨o, ho, hc⟩ isSubtype_stop ?_
  exact wpAny_pure (hQ _ eb)
end
def IteT (K : PySem.W.Frag) (a : Addr) : It where
  go := fun i H => ∃ (xs : List V) (x : V), SqT K H a xs ∧ xs[i]? = some x
  yld := fun i H v H' => ∃ T x, v = .ref T ∧ H T = none ∧ H' = upd H T (.tup [.int (i : Nat), x]) ∧ ∀ xs, SqT K H a xs → xs[i]? = some x
  stop := fun i H => ∃ xs : List V, SqT K H a xs ∧ xs.length ≤ i
theorem turn_enumT {P : Program} {w : World} {K : PySem.W.Frag} {elts : List Expr} {kk : Nat} {tpos : Pos} (a e it : Addr) :
    Turn P w K (.Tuple elts kk tpos) (IteT K a) [e, it] e (fun i h => (∃ old, IsEnum h e it ((i : Nat) : Int) old) ∧ h.IsTupleIter it a i ∧ e ≠ it ∧ a ≠ it ∧ e ≠ a) where
  mem := List.mem_cons_self
  obj := fun i h st b hb => by
    obtain ⟨⟨old, he⟩, ⟨o, ho, _, hd⟩, _⟩ := st
    rcases List.mem_cons.mp hb with rfl | hb
    · exact ⟨_, he, fun v q => nomatch q⟩
    · rw [List.mem_singleton.mp hb]
      exact ⟨o, ho, fun v q => by rw [hd] at q; cases q⟩
  keep := fun i h h' ⟨⟨old, he⟩, hi, r⟩ k => ⟨⟨old, k e (by simp) _ he⟩, hi.at fun o q => k it (by simp) o q, r⟩
  item := by
    intro X hP hw hK hc i pn s σ H E J hf st hg
    subst hP hw hK
    obtain ⟨⟨old, he⟩, hit, hne, hai, hea⟩ := st
    obtain ⟨xs, x, hq, hx⟩ := hg
    obtain ⟨its, rv, p, hz⟩ := J.tuple hq
    obtain ⟨u, hu, ru⟩ := rv.get hx
    have hel : e < s.heap.objs.size := Heap.lt_size he
    have hil : it < s.heap.objs.size := by obtain ⟨_, q, _⟩ := hit; exact Heap.lt_size q
    have hlt : i < its.toArray.size := by
      have := (List.getElem?_eq_some_iff.mp hu).1
      simpa using this
    refine wpAny_pyNext_enum_itemD (Draws.tuple (A := X.A.in1) (J.ok.hd hc) it a hai its.toArray) he ⟨hit, p⟩ hlt hne (by simp [hne, hea]) fun y h' tk hy ho hst hT hsz hk => ?_
    have ey : y = u := by
      have hy' : its[i]? = some y := by simpa using hy
      rw [hu] at hy'
      exact (Option.some.inj hy').symm
    subst ey
    refine ⟨_, rfl, wpAny_letOwnedTupleGo_enum (s := { s with heap := h', toks := tk + 1 }) ho fun h'' he' sb => ?_⟩
    have hT2 : h''.get? s.heap.objs.size = some { cls := .type "tuple", data := .seq #[.int i tk, y] } := (sb.2 _ (Nat.ne_of_gt hel)).trans hT
    have new : ObjOk X.prog X.w (upd H s.heap.objs.size (.tup [.int (i : Nat), x])) h'' s.heap.objs.size (.tup [.int (i : Nat), x]) :=
      ⟨small_line (by show 2 ≤ 100000; omega), [.int i tk, y], .cons ⟨_, rfl⟩ (.cons ru .nil), ⟨_, hT2, rfl, _, rfl⟩⟩
    have J1 : Inv X pn σ (upd H s.heap.objs.size (.tup [.int (i : Nat), x])) { s with heap := h'', toks := tk + 1 } :=
      J.turnedNew (ch := [e, it]) (fun b ob hb q => (sb.2 b (fun z => hb (by simp [z]))).trans (hk b ob (fun z => hb (by simp [z])) (fun z => hb (by simp [z])) q)) hf (Nat.le_refl _) new
    refine ⟨.ref s.heap.objs.size, _, J1, rfl, ⟨_, x, rfl, J.hok.fresh (Nat.le_refl _), rfl, fun ys hy => by rw [J.tuple_inj hy hq]; exact hx⟩, ⟨⟨y, ?_⟩, hst.1.at fun o q => (sb.2 it (Ne.symm hne)).trans q, hne, hai, hea⟩, fun b hb => ?_⟩
    · rw [show ((i + 1 : Nat) : Int) = (i : Int) + 1 by omega]
      exact he'
    · have hb' : b < s.heap.objs.size := by
        rcases List.mem_cons.mp hb with z | z
        · rw [z]; exact hel
        · rw [List.mem_singleton.mp z]; exact hil
      rw [upd_ne (Nat.ne_of_lt hb')]
      exact (hf b hb).1
  done := by
    intro X hP hw hK hc i pn s σ H E J hf st hg
    subst hP hw hK
    obtain ⟨⟨old, he⟩, hit, hne, hai, hea⟩ := st
    obtain ⟨xs, hq, hx⟩ := hg
    obtain ⟨its, rv, p, hz⟩ := J.tuple hq
    obtain ⟨f0, f1, f2, f3, f4, f5⟩ := hf it (by simp)
    have hl := rv.length
    exact enumT_end (J.ok.hd hc) he hit p (by simp; omega) fun h' eb => ⟨rfl, J.turned (t' := s.toks) (fun b o hb q => eb b o hb q) f0 f1 f3 f4 f5⟩
  self := fun A i s Q E ⟨⟨_, he⟩, _⟩ h => wpAny_pyIter_enum he h
def iEnumT (K : PySem.W.Frag) (ta : TA) : TI := fun σ H R => ta σ H fun vs H1 => ∃ a xs, vs = [.ref a] ∧ SqT K H1 a xs ∧ R (IteT K a) H1
theorem pi_enumT {X : Cx} {e : Expr} {ta : TA} {p pos tpos : Pos} {elts : List Expr} {kk : Nat} (hg : Gl X "enumerate") (hm : X.mg "enumerate" = none) (ha : PA X [e] ta) (hs : starEach [e] X.env = [(false, eval e X.env)] := by rfl) :
    PI X (.Tuple elts kk tpos) (.Call (.Name "enumerate" p) [e] [] pos) (iEnumT X.K ta) := by
  constructor
  intro pn s σ H R J h
  refine Call_ (ld_blt J hg hm boot_enumerate ?_)
  refine PyProof.Rows.callWith_type1 (thn (ha.run pos pn s σ H _ J h) ?_) hs rfl
  rintro us s1 ⟨vs, H1, J1, r1, a, xs, rfl, hq, q⟩
  obtain ⟨its, rv, hT, hz⟩ := J1.tuple hq
  rw [Vals.ref1 r1]
  refine call_enumT hT fun h' he hit hk => wpAny_pyIter_enum he ?_
  have hal : a < s1.heap.objs.size := by obtain ⟨o, ho, _⟩ := hT; exact Heap.lt_size ho
  have J2 : Inv X pn σ H1 { s1 with heap := h' } := J1.kept (t' := s1.toks) hk
  refine ⟨s1.heap.objs.size + 1, [s1.heap.objs.size + 1, s1.heap.objs.size], _, _, H1, rfl, J2, turn_enumT a (s1.heap.objs.size + 1) s1.heap.objs.size, ⟨⟨.none, he⟩, hit, Nat.succ_ne_self _, Nat.ne_of_lt hal, Nat.ne_of_gt (Nat.lt_succ_of_lt hal)⟩, fun b hb => ?_, q⟩
  have hle : s1.heap.objs.size ≤ b := by
    rcases List.mem_cons.mp hb with z | z
    · rw [z]; exact Nat.le_add_right _ _
    · rw [List.mem_singleton.mp z]; exact Nat.le_refl _
  exact J1.fpOk hle (J1.hok.fresh hle)
theorem walk_enumT {K : PySem.W.Frag} {a : Addr} {xs : List V} : Walk (IteT K a) xs.length (fun H => SqT K H a xs) (YPair (fun i => some (.int (i : Nat))) (fun i => xs[i]?)) := by
  constructor
  · intro i H hi q
    exact ⟨xs, xs[i], q, by simp [hi]⟩
  · intro H q
    exact ⟨xs, q, Nat.le_refl _⟩
  · rintro i H v H' _ q ⟨T, x, h1, h2, h3, h4⟩
    exact ⟨T, .int (i : Nat), x, h1, h2, h3, rfl, h4 xs q⟩
theorem bt_sorted : bootBuiltins "sorted" = some (.builtin "sorted") := by decide +kernel
/-- a walk, by what holds behind each turn: for whatever a turn does (B) and whatever comes behind (Z) -/
theorem wit {J : It} {n : Nat} {G : Hp → Prop} {Y : Nat → Hp → V → Hp → Prop} (w : Walk J n G Y) {B : (Hp → Prop) → V → Hp → Prop} {Z : Hp → Prop} {H0 : Hp} (Pv : Nat → Hp → Prop) (h0 : Pv 0 H0)
    (hG : ∀ i H, i ≤ n → Pv i H → G H) (hs : ∀ i x H H', i < n → Pv i H → Y i H x H' → B (Pv (i + 1)) x H') (hd : ∀ H, Pv n H → Z H) :
    ∃ W : Nat → Nat → Hp → Prop, (∃ m, W 0 m H0) ∧ ∀ i m H, W i m H → (J.stop i H ∧ Z H) ∨ (J.go i H ∧ ∃ Nx : Hp → Prop, (∀ H', Nx H' → ∃ m', m' < m ∧ W (i + 1) m' H') ∧ ∀ x H', J.yld i H x H' → B Nx x H') := by
  refine ⟨fun i m H => m = n - i ∧ i ≤ n ∧ Pv i H, ⟨n, rfl, Nat.zero_le _, h0⟩, ?_⟩
  rintro i m H ⟨rfl, hi, p⟩
  by_cases h : i < n
  · right
    exact ⟨w.goes i H h (hG i H hi p), Pv (i + 1), fun H' p' => ⟨n - (i + 1), by omega, rfl, h, p'⟩, fun x H' y => hs i x H H' h p (w.yields i H x H' h (hG i H hi p) y)⟩
  · obtain rfl : i = n := by omega
    exact .inl ⟨w.stops H (hG i H hi p), hd H p⟩
theorem bt_enumerate : bootBuiltins "enumerate" = some (.type "enumerate") := boot_enumerate
end GS
namespace GS
open PySem PySem.Spec PyProof.Rows L2 RZ
abbrev Sg := L2.St
/-! an exception that was caught and is kept behind its suite -/
def ExK (cls : Value) (a : Addr) : HO := .ext fun h => ∃ (oe : Obj) (vs : Array Value), h.get? a = some oe ∧ Zc cls none oe ∧ oe.data = .fields vs
theorem exK_ok {P : Program} {w : World} {H : Hp} {h : Heap} {a : Addr} {cls : Value} {oe : Obj} {vs : Array Value} (e : h.get? a = some oe) (z : Zc cls none oe) (d : oe.data = .fields vs) : ObjOk P w H h a (ExK cls a) :=
  ⟨⟨oe, vs, e, z, d⟩, ⟨oe, e⟩, fun _ _ ⟨o, us, e1, z1, d1⟩ k => ⟨o, us, k o e1, z1, d1⟩⟩
section
variable {X : Cx} {pins : List (Addr × Obj)} {σ : L2.St} {H : Hp} {s : Shared}
/-- an object that is in reach, but was tracked by nobody, is tracked from here on -/
theorem inv_track {a : Addr} {cls : Value} {oe : Obj} {vs : Array Value} (I : Inv X pins σ H s) (ga : s.heap.get? a = some oe) (hz : Zc cls none oe) (hd : oe.data = .fields vs) (na : H a = none)
    (nL : a ≠ X.env.locals) (n0 : X.s_0.heap.get? a = none) (np : ∀ p ∈ X.pn ++ pins, p.1 ≠ a) : Inv X pins σ (upd H a (ExK cls a)) s := by
  have other : ∀ {b : Addr}, b ≠ a → H b = none → (upd H a (ExK cls a)) b = none := fun hb hn => by
    rw [upd_ne hb]
    exact hn
  have kept : ∀ {b : Addr} {o : HO}, H b = some o → (upd H a (ExK cls a)) b = some o := fun e => by
    rw [upd_ne (ne_of_none e na)]
    exact e
  refine { ok := I.ok, os := I.os, bare := I.bare, loc := I.loc, cell := I.cell, len := I.len, base := ?_, free := other nL.symm I.free, freeC := ?_, pin := ?_, hok := ?_ }
  · refine { keep := I.base.keep, slot := I.base.slot, there := I.base.there, free := ?_, tups := fun b xs e => kept (I.base.tups b xs e), frzs := fun b o u e => kept (I.base.frzs b o u e), tbls := ?_ }
    · intro b o e n hx
      exact other (fun z => by rw [z, n0] at e; cases e) (I.base.free b o e n hx)
    · intro b ps e
      obtain ⟨more, q⟩ := I.base.tbls b ps e
      exact ⟨more, kept q⟩
  · intro x c e
    refine other (fun z => ?_) (I.freeC x c e)
    obtain ⟨v, hv⟩ := I.cell x c e
    obtain ⟨o, h1, h2⟩ := hv
    rw [z, ga] at h1
    cases h1
    rw [hd] at h2
    cases h2
  · intro p hp
    obtain ⟨g1, g2, g3⟩ := I.pin p hp
    exact ⟨g1, other (np p hp) g2, g3⟩
  · exact HOk.laidN I.hok (fun _ _ z => z) na (exK_ok ga hz hd)
end
/-- the wish behind «except c as n: suite» where the caught one is kept -/
def wKeep (K : PySem.W.Frag) (c : Value) (i : Nat) (ts : Addr → Value → TS) (D : Ends) : WX := fun cls d σ H =>
  d = none ∧ PySem.W.exmOne K cls c = some true ∧
    ∀ a, H a = none → ts a cls { nx := fun σ' H' => D.nx (σ'.set i none) (upd H' a (ExK cls a)), rt := fun _ _ => False, bk := fun _ _ => False, ct := fun _ _ => False } (σ.set i (some (.ref a))) H
section
variable {X : Cx} {x n : Str} {c : Value} {i : Nat} {body rest : List Stmt} {b₀ : Stmt} {np pos pos' : Pos} {tb : WX → TS} {ts : Addr → Value → TS}
theorem ps_try_keep (hs : X.stack = X.env :: X.outer) (hf : X.env.frame = some X.env.locals) (hex : X.ex = []) (hN : X.N.Nodup) (hi : X.N[i]? = some n) (hln : X.env.kindOf n = some .local) (hc : Names X x c)
    (hb : ∀ (W : WX) (pn : List (Addr × Obj)) (xe : Value → Shared → Prop), Takes (X.tr pn xe) W → PassesOwn (model X.prog X.w) X.A X.env xe → PSs (X.tr pn xe) body (tb W))
    (hsu : ∀ (a : Addr) (oe : Obj) (cls : Value) (pn : List (Addr × Obj)), Zc cls none oe → (∃ vs, oe.data = .fields vs) → PSs (X.suite a ((a, oe) :: pn)) (b₀ :: rest) (ts a cls)) :
    PS X (.Try body [.ExceptHandler (some (.Name x np)) (some n) (b₀ :: rest) pos'] [] [] pos) (fun D σ H => tb (wKeep X.K c i ts D) D σ H) := by
  constructor
  intro pins s σ H D I h
  have okX := I.ok
  have frames : X.A.frames = some (X.env :: X.outer) := okX.frames.trans (congrArg some hs)
  apply wpAny_Try_except
  have B := hb (wKeep X.K c i ts D) (X.pn ++ pins) (fun e s1 => wpAny (model X.prog X.w) X.A (noteFrame e X.env) (fun _ s2 => wpAny (model X.prog X.w) X.A (setFlight e none)
    (fun _ s3 => wpAny (model X.prog X.w) X.A (handleBy e X.env [.ExceptHandler (some (.Name x np)) (some n) (b₀ :: rest) pos']) (SP X pins D) X.xe s3) X.xe s2) X.xe s1)
  refine wpAny_mono ((B ?_ PassesOwn.looking).run [] s σ H D (I.toTry _) h) ?_ fun _ _ z => z
  · intro u s1 air
    obtain ⟨a, G, sI, ps, σ1, H1, cls, d, eu, I0, inG, upS, sky, na, eos, eg, ed, em, hw⟩ := air
    subst eu
    subst ed
    have J : Inv X pins σ1 H1 sI := I0.ofTry okX
    rw [show (X.tr (X.pn ++ pins) _).stack = X.env :: X.outer from hs] at sky
    change wpAny (model X.prog X.w) X.A (noteFrame (.ref a) X.env) _ _ _
    refine Sky.land Zc.steady frames hf sky fun g1 f1 u1 => ?_
    have J1 : Inv X pins σ1 H1 { s1 with heap := g1 } := J.landed inG f1.1 (upS.trans u1) eos eg
    obtain ⟨o1, v1, ga1, z1, d1⟩ := f1.there
    have away : a ∉ frs (X.env :: X.outer) := fun hm => by
      obtain ⟨_, o2, e2, nf⟩ := f1.2.2.1.mem hm
      rw [ga1] at e2
      cases e2
      exact nf _ d1
    have ne1 : a ≠ X.env.locals := fun z => away (List.mem_filterMap.mpr ⟨X.env, List.mem_cons_self, hf.trans (congrArg some z.symm)⟩)
    have ne2 : a ∉ X.fs := fun hm => by
      obtain ⟨e, me, q⟩ := List.mem_filterMap.mp hm
      exact away (List.mem_filterMap.mpr ⟨e, List.mem_cons_of_mem _ me, q⟩)
    -- it is new
    have newI : sI.heap.get? a = none := by
      cases q : sI.heap.get? a with
      | none => rfl
      | some o =>
        have := inG a o q (by rw [show (X.tr (X.pn ++ pins) _).stack = X.env :: X.outer from hs]; exact away)
        rw [f1.2.1] at this
        cases this
    have new0 : X.s_0.heap.get? a = none := by
      cases q : X.s_0.heap.get? a with
      | none => rfl
      | some o =>
        obtain ⟨o', q'⟩ := J.base.there a o q (by rw [hex]; exact List.not_mem_nil)
        rw [newI] at q'
        cases q'
    have newP : ∀ p ∈ X.pn ++ pins, p.1 ≠ a := fun p hp z => by
      have := (J.pin p hp).1
      rw [z, newI] at this
      cases this
    have S1 := J1.suite ga1 d1 na ne1 ne2
    refine wpAny_handleBy_cons (codeAny_handlers_test ?_) (by intro q; cases q)
    have look : PySem.W.Looks (model X.prog X.w) g1 (typeOf (.ref a)) cls := fun A Q E s k q => wpAny_typeOf_ref (k _ _ ga1) (by rw [z1.1]; exact q)
    have meets := PySem.W.exm_one (M := model X.prog X.w) J1.kIn look em
    have name : ∀ {Q E : Value → Shared → Prop}, Q c { s1 with heap := g1 } → wpAny (model X.prog X.w) (X.A.mark (some (.ref a))) (eval (.Name x np) X.env) Q E { s1 with heap := g1 } := by
      intro Q E q
      obtain ⟨hg, hdb, hm | ⟨hm, hv, hnn⟩⟩ := hc
      · exact ld_glob (X := X.suite a ((a, o1) :: (X.pn ++ pins))) S1 hg hm q hdb
      · exact ld_blt (X := X.suite a ((a, o1) :: (X.pn ++ pins))) S1 hg hm hv q hnn hdb
    refine name (meets.here (codeAny_handlers_suite_as ?_))
    refine HandSPX.lands_againZ f1 fun g2 f2 u2 => ?_
    have J2 : Inv X pins σ1 H1 { s1 with heap := g2 } := J.landed inG f2.1 ((upS.trans u1).trans u2) eos eg
    obtain ⟨o2, v2, ga2, z2, d2⟩ := f2.there
    have S2 := J2.suite ga2 d2 na ne1 ne2
    refine store_ok (X := X.suite a ((a, o2) :: (X.pn ++ pins))) (v := .ref a) S2 hN hi (.inl hln) rfl (fun s3 S3 => ?_) (.inr hln)
    refine wpAny_mono ((hsu a o2 cls (X.pn ++ pins) z2 ⟨_, d2⟩).run [] s3 _ H1 _ S3 (hw a na)) (fun fl s4 hq => ?_) fun _ _ z => False.elim z
    match fl, hq with
    | .next, ⟨σ4, H4, S4, q4⟩ =>
      have pn4 := S4.pin (a, o2) (List.mem_append.mpr (.inl List.mem_cons_self))
      have J4 := inv_track (S4.unsuite okX) pn4.1 z2 d2 pn4.2.1 ne1 new0 newP
      exact gone_ok J4 hN hi hln fun s5 J5 => ⟨_, _, J5, q4⟩
    | .brk, ⟨_, _, _, q4⟩ => exact q4.elim
    | .cont, ⟨_, _, _, q4⟩ => exact q4.elim
    | .ret _, ⟨_, _, _, _, _, q4⟩ => exact q4.elim
  · intro fl s1 hq
    match fl, hq with
    | .next, ⟨σ1, H1, J, q⟩ => exact wpAny_execs_nil ⟨σ1, H1, J.ofTry okX, q⟩
    | .brk, ⟨σ1, H1, J, q⟩ => exact ⟨σ1, H1, J.ofTry okX, q⟩
    | .cont, ⟨σ1, H1, J, q⟩ => exact ⟨σ1, H1, J.ofTry okX, q⟩
    | .ret u, ⟨v, σ1, H1, J, r, q⟩ => exact ⟨v, σ1, H1, J.ofTry okX, r, q⟩
end
section
variable {X : Cx}
/-- isinstance(e, c), e an exception that is kept -/
def rIsK (K : PySem.W.Frag) : List V → Hp → VK → Prop := fun xs H Q => ∃ (a D : Addr) (c : V) (u : Value) (b : Bool), xs = [.ref a, c] ∧ H a = some (ExK (.ref D) a) ∧ ExcC K D ∧ ClsV c u ∧ PySem.W.kitOne K (.ref D) u = some b ∧ Q (.bl b) H
def rIsKT (K : PySem.W.Frag) : List V → Hp → VK → Prop := fun xs H Q => ∃ (a D tp : Addr) (cs : List V) (us : List Value) (b : Bool), xs = [.ref a, .ref tp] ∧ H a = some (ExK (.ref D) a) ∧ ExcC K D ∧ H tp = some (.tup cs) ∧ Paired ClsV cs us ∧ PySem.W.kitAny K (.ref D) us = some b ∧ Q (.bl b) H
theorem exK_at {pins : List (Addr × Obj)} {σ : L2.St} {H : Hp} {s : Shared} {a D : Addr} (I : Inv X pins σ H s) (h : H a = some (ExK (.ref D) a)) : ∃ oe, PySem.W.InstAt s.heap a oe D none := by
  obtain ⟨⟨oe, vs, g, ⟨z1, z2⟩, d⟩, _, _⟩ := I.hok a _ h
  refine ⟨oe, ?_⟩
  obtain ⟨oc, od, oda, osl⟩ := oe
  dsimp only at z1 z2 d
  subst z1 z2 d
  exact ⟨g, rfl, rfl, trivial⟩
theorem call_isK : CallR X (.builtin "isinstance") (rIsK X.K) := by
  intro pins s σ H xs us Q I r h
  obtain ⟨a, D, c, u, b, rfl, ha, C, k, e, q⟩ := h
  obtain ⟨u1, u2, rfl, r1, r2⟩ := vals2 r
  cases (show u1 = Value.ref a from r1)
  have e2 := k.eq r2
  subst e2
  obtain ⟨oe, J⟩ := exK_at I ha
  exact PySem.W.kia_one (PySem.W.handS_kitx_exc C.hg C.hk C.hs C.hd C.ha C.hn C.ht C.hm) I.kIn J e (fun z => nomatch z) fun tk => ⟨.bl b, H, I.tok tk, rfl, q⟩
theorem call_isKT : CallR X (.builtin "isinstance") (rIsKT X.K) := by
  intro pins s σ H xs us Q I r h
  obtain ⟨a, D, tp, cs, ws, b, rfl, ha, C, hT, k, e, q⟩ := h
  obtain ⟨u1, u2, rfl, r1, r2⟩ := vals2 r
  cases (show u1 = Value.ref a from r1)
  cases (show u2 = Value.ref tp from r2)
  obtain ⟨oe, J⟩ := exK_at I ha
  obtain ⟨_, its, rv, o, h1, h2, n, h3⟩ := (show ObjOk X.prog X.w H s.heap tp (.tup cs) from I.hok tp _ hT)
  have e3 := ClsV.all k rv
  subst e3
  obtain ⟨oc, od, dt, sl⟩ := o
  simp only at h2 h3
  subst h2 h3
  exact PySem.W.kia_tup (PySem.W.handS_kitx_exc C.hg C.hk C.hs C.hd C.ha C.hn C.ht C.hm) I.kIn J h1 e (fun z => nomatch z) fun tk => ⟨.bl b, H, I.tok tk, rfl, q⟩
end
end GS
namespace GS
open PySem PySem.Spec PyProof.Rows L2 RZ
theorem bt_ValueError : bootBuiltins "ValueError" = some (.type "ValueError") := by decide +kernel
/-- repr of data of any kind (dicts aside) -/
def rShw (K : PySem.W.Frag) : List V → Hp → VK → Prop := fun xs H Q => ∃ (v : V) (d : PyData), xs = [v] ∧ Dp K H v d ∧ d.showable = true ∧ d.hasDict = false ∧ d.depth ≤ 60 ∧ d.shown.length ≤ sizeLine ∧ Q (.str d.shown) H
section
variable {X : Cx}
theorem call_shw (hA : Clr X.A) (hu : X.A.units + 64 < cLine) : CallR X (.builtin "repr") (rShw X.K) := by
  intro pn s σ H xs us Q J r h
  obtain ⟨v, d, rfl, hd, h1, h2, h3, h4, q⟩ := h
  obtain ⟨u, rfl, r1⟩ := vals1 r
  have big : ∀ a, v = .ref a → wpAny (model X.prog X.w) X.A (call (.builtin "repr") [u]) (EP X pn σ Q) X.xe s := by
    intro a e
    subst e
    cases r1
    obtain ⟨as, rd⟩ := Dp.reads J d _ _ hd rfl
    exact repr_of_reads' rd h1 (PyData.noDict_hsm h2) hA (by omega) (fun _ _ z => z) (fun h' u tk hk => ⟨.str _, H, J.kept hk, ⟨_, rfl⟩, q⟩) h4
  cases hd with
  | non =>
    cases r1
    exact PySem.P.repr_of_none ⟨.str _, H, J.tok _, ⟨_, rfl⟩, q⟩
  | bl b =>
    cases r1
    exact PySem.P.repr_of_bool ⟨.str _, H, J.tok _, ⟨_, rfl⟩, q⟩
  | int i =>
    obtain ⟨t, rfl⟩ := r1
    exact PySem.P.repr_of_int (of_decide_eq_true h1) ⟨.str _, H, J.tok _, ⟨_, rfl⟩, q⟩
  | str x =>
    obtain ⟨t, rfl⟩ := r1
    exact PySem.P.repr_of_str ⟨.str _, H, J.tok _, ⟨_, rfl⟩, q⟩ h4
  | lst h g => exact big _ rfl
  | tup h g => exact big _ rfl
end
end GS
namespace GS
open PySem PySem.Spec PyProof.Rows L2 RZ
/-! enumerate(zip(t, u)) of two tuples -/
/-- a zip in whatever state: what it has given out (g), and whether it knows that this is still held (b) -/
abbrev ZipF (h : Heap) (z TI TO : Addr) (g : Value) (b : Bool) : Prop :=
  h.get? z = some { cls := .type "zip", dict := none, data := .fields #[g, .bool b, .bool false, .ref TI, .ref TO], slots := #[] }
abbrev PairAt (h : Heap) (T : Addr) (a b : Value) : Prop := h.get? T = some { cls := .type "tuple", data := .seq #[a, b] }
def Gv (g : Value) : Prop := g = .none ∨ ∃ T : Addr, g = rawInt T
section
variable {prog : Program} {w : World} {A : Around} {E : Value → Shared → Prop} {s : Shared}
theorem owned_any {z TI TO : Addr} {g : Value} {b : Bool} {Q : Bool → Shared → Prop} (hz : ZipF s.heap z TI TO g b) (hg : Gv g) (yes : Q true s)
    (no : ∀ h', ZipF h' z TI TO g true → Heap.SameBut z s.heap h' → Q false { s with heap := h' }) : wpAny (model prog w) A (Builtin.SmallTypes.ownedTupleIsFree (.ref z)) Q E s := by
  unfold Builtin.SmallTypes.ownedTupleIsFree
  apply wpAny_bind
  rcases hg with rfl | ⟨T, rfl⟩
  · exact wpAny_field hz rfl (x := .none) rfl (wpAny_pure yes)
  apply wpAny_field hz rfl (x := rawInt T) rfl
  change wpAny _ _ (loadIfAlive ((T : Int).toNat) >>= _) _ _ _
  rw [Int.toNat_natCast]
  apply wpAny_bind
  cases e : s.heap.get? T with
  | none =>
    have goal : wpAny (model prog w) A (loadIfAlive T) (fun o s1 => o = none ∧ s1 = s) E s := by
      have q : (s.heap.get? T) = none ∧ s = s := ⟨e, rfl⟩
      exact fun _ _ _ => q
    refine wpAny_mono goal (fun o s1 hq => ?_) fun _ _ x => x
    obtain ⟨rfl, rfl⟩ := hq
    simp only [Option.isNone_none, if_true]
    exact wpAny_pure yes
  | some oT =>
    refine PySem.W.kdx_alive e ?_
    simp only [Option.isNone_some, Bool.false_eq_true, if_false]
    apply wpAny_bind
    apply wpAny_field hz rfl (x := .bool b) rfl
    cases b with
    | true =>
      rw [if_neg (by decide)]
      exact wpAny_pure (no _ hz (Heap.SameBut.refl _ _))
    | false =>
      rw [if_pos (by decide)]
      apply wpAny_bind
      exact wpAny_setField_rec hz (by simp) fun h1 z1 s1 => wpAny_pure (no h1 z1 s1)
/-- next of such a zip, both have an item -/
theorem zipF_item {z TI TO i1 i2 l1 l2 : Addr} {k1 k2 : Nat} {xs ys : Array Value} {x y g : Value} {b : Bool} {Q : Value → Shared → Prop} (D : ZipApart z TI TO i1 i2 l1 l2) (hz : ZipF s.heap z TI TO g b) (hg : Gv g)
    (hTI : PairAt s.heap TI (.ref i1) (.ref i2)) (hTO : ∃ u v, PairAt s.heap TO u v) (h1 : s.heap.IsTupleIter i1 l1 k1) (h2 : s.heap.IsTupleIter i2 l2 k2) (hl1 : s.heap.IsTuple l1 xs) (hl2 : s.heap.IsTuple l2 ys)
    (hx : xs[k1]? = some x) (hy : ys[k2]? = some y)
    (hQ : ∀ h' g' b', ZipF h' z TI TO g' b' → Gv g' → (∃ u v, PairAt h' TO u v) → h'.IsTupleIter i1 l1 (k1 + 1) → h'.IsTupleIter i2 l2 (k2 + 1) → PairAt h' s.heap.objs.size x y → h'.objs.size = s.heap.objs.size + 1 →
      (∀ c o, c ≠ z → c ≠ TO → c ≠ i1 → c ≠ i2 → s.heap.get? c = some o → h'.get? c = some o) → Q (.ref s.heap.objs.size) { s with heap := h' }) :
    wpAny (model prog w) A (Builtin.«zip.__next__» ⟨[.ref z], []⟩) (fun fin s' => ∃ v, fin = .done (.ret v) ∧ Q v s') E s := by
  change wpAny _ _ (field (.ref z) 2 >>= _) _ _ _
  apply wpAny_bind
  apply wpAny_field hz rfl (x := .bool false) rfl
  change wpAny _ _ (field (.ref z) 3 >>= _) _ _ _
  apply wpAny_bind
  apply wpAny_field hz rfl (x := .ref TI) rfl
  apply wpAny_bind
  apply wpAny_seqItems hTI rfl
  change wpAny _ _ (Builtin.SmallTypes.ownedTupleIsFree (.ref z) >>= _) _ _ _
  apply wpAny_bind
  obtain ⟨u0, v0, hTO⟩ := hTO
  refine owned_any hz hg ?_ fun ha za sa => ?_
  · -- the owned one again
    simp only [if_true]
    refine wpAny_bind (wpAny_rule (wpAny_bind (wpAny_field hz rfl (x := .ref TO) rfl (wpAny_bind (wpAny_setField_rec hz (by simp) fun ha za sa => ?_)))))
    replace za : ZipF ha z TI TO .ellipsis b := za
    apply wpAny_bind
    simp only [List.zipIdx_cons, List.zipIdx_nil, List.forIn_cons, List.forIn_nil]
    refine wpAny_bind (wpAny_bind (wpAny_onRaise ?_))
    change wpAny _ _ (Builtin.SmallTypes.nextOf (.ref i1) >>= _) _ _ _
    refine wpAny_bind (nextOf_tuple_item (h1.extBut sa.extBut D.i1z) (hl1.extBut sa.extBut D.l1z) hx fun hb ib sb => wpAny_pure ?_)
    have tb : PairAt hb TO u0 v0 := sb.extBut _ _ D.TOi1 (sa.extBut _ _ D.TOz hTO)
    refine wpAny_bind (wpAny_seqItems tb rfl (wpAny_bind (wpAny_updateSeq_pair tb fun hc tc sc => ?_)))
    replace tc : PairAt hc TO x v0 := tc
    refine wpAny_bind (wpAny_letGo (wpAny_pure ?_))
    refine wpAny_bind (wpAny_bind (wpAny_onRaise ?_))
    change wpAny _ _ (Builtin.SmallTypes.nextOf (.ref i2) >>= _) _ _ _
    have i2c := ((h2.extBut sa.extBut D.i2z).extBut sb.extBut D.i12.symm).extBut sc.extBut D.TOi2.symm
    have l2c := ((hl2.extBut sa.extBut D.l2z).extBut sb.extBut D.l2i1).extBut sc.extBut D.l2TO
    refine wpAny_bind (nextOf_tuple_item i2c l2c hy fun hd id sd => wpAny_pure ?_)
    have td : PairAt hd TO x v0 := sd.extBut _ _ D.TOi2 tc
    refine wpAny_bind (wpAny_seqItems td rfl (wpAny_bind (wpAny_updateSeq_pair td fun he te se => ?_)))
    replace te : PairAt he TO x y := te
    refine wpAny_bind (wpAny_letGo (wpAny_pure (wpAny_pure (wpAny_bind (wpAny_seqItems te rfl (wpAny_bind (wpAny_newTuple ?_)))))))
    have size : he.objs.size = s.heap.objs.size := by rw [se.1, sd.1, sc.1, sb.1, sa.1]
    have keep : ∀ c o, c ≠ z → c ≠ TO → c ≠ i1 → c ≠ i2 → s.heap.get? c = some o → he.get? c = some o := fun c o n1 n2 n3 n4 q =>
      se.extBut _ _ n2 (sd.extBut _ _ n4 (sc.extBut _ _ n2 (sb.extBut _ _ n3 (sa.extBut _ _ n1 q))))
    have ze : ZipF he z TI TO .ellipsis b := se.extBut _ _ D.TOz.symm (sd.extBut _ _ D.i2z.symm (sc.extBut _ _ D.TOz.symm (sb.extBut _ _ D.i1z.symm za)))
    have i1e : he.IsTupleIter i1 l1 (k1 + 1) := ((ib.extBut sc.extBut D.TOi1.symm).extBut sd.extBut D.i12).extBut se.extBut D.TOi1.symm
    have i2e : he.IsTupleIter i2 l2 (k2 + 1) := id.extBut se.extBut D.TOi2.symm
    have zlt : z < he.objs.size := Heap.lt_size ze
    change wpAny _ _ (Builtin.SmallTypes.ownedTupleHandOut (.ref z) (.ref he.objs.size) >>= _) _ _ _
    apply wpAny_bind
    unfold Builtin.SmallTypes.ownedTupleHandOut
    have zf : ZipF (he.push { cls := .type "tuple", data := .seq #[x, y] }) z TI TO .ellipsis b := Heap.get?_push_of_some _ ze
    refine wpAny_bind (wpAny_setField_rec zf (by simp) fun hg zg sg => ?_)
    replace zg : ZipF hg z TI TO (rawInt he.objs.size) b := zg
    refine wpAny_setField_rec zg (by simp) fun hi zi si => ?_
    replace zi : ZipF hi z TI TO (rawInt he.objs.size) false := zi
    have on : ∀ c o, c ≠ z → he.get? c = some o → hi.get? c = some o := fun c o n q => si.extBut _ _ n (sg.extBut _ _ n (Heap.get?_push_of_some _ q))
    have new : PairAt hi he.objs.size x y := si.extBut _ _ (Nat.ne_of_gt zlt) (sg.extBut _ _ (Nat.ne_of_gt zlt) (Heap.get?_push_size _ rfl))
    have sz : hi.objs.size = he.objs.size + 1 := by rw [si.1, sg.1, Heap.size_push]
    refine wpAny_pure ⟨_, rfl, ?_⟩
    change Q (.ref he.objs.size) _
    rw [size] at new sz ⊢
    exact hQ hi _ _ zi (.inr ⟨_, rfl⟩) ⟨_, _, on _ _ D.TOz te⟩ (i1e.at fun o q => on _ o D.i1z q) (i2e.at fun o q => on _ o D.i2z q) new sz fun c o n1 n2 n3 n4 q => on c o n1 (keep c o n1 n2 n3 n4 q)
  · -- a new one
    simp only [Bool.false_eq_true, if_false]
    apply wpAny_bind
    rw [← Array.forIn_toList]
    simp only [List.forIn_cons, List.forIn_nil]
    refine wpAny_bind (wpAny_bind (wpAny_holding ?_))
    change wpAny _ _ (Builtin.SmallTypes.nextOf (.ref i1) >>= _) _ _ _
    refine wpAny_bind (nextOf_tuple_item (s := { s with heap := ha }) (h1.extBut sa.extBut D.i1z) (hl1.extBut sa.extBut D.l1z) hx fun hb ib sb => wpAny_pure (wpAny_pure ?_))
    refine wpAny_bind (wpAny_bind (wpAny_holding ?_))
    change wpAny _ _ (Builtin.SmallTypes.nextOf (.ref i2) >>= _) _ _ _
    refine wpAny_bind (nextOf_tuple_item (s := { s with heap := hb }) ((h2.extBut sa.extBut D.i2z).extBut sb.extBut D.i12.symm) ((hl2.extBut sa.extBut D.l2z).extBut sb.extBut D.l2i1) hy fun hc ic sc => wpAny_pure (wpAny_pure (wpAny_pure ?_)))
    change wpAny _ _ (newTuple [x, y] >>= _) _ _ _
    refine wpAny_bind (wpAny_newTuple ?_)
    have size : hc.objs.size = s.heap.objs.size := by rw [sc.1, sb.1, sa.1]
    have zc : ZipF hc z TI TO g true := sc.extBut _ _ D.i2z.symm (sb.extBut _ _ D.i1z.symm za)
    have keep : ∀ c o, c ≠ z → c ≠ i1 → c ≠ i2 → s.heap.get? c = some o → hc.get? c = some o := fun c o n1 n2 n3 q => sc.extBut _ _ n3 (sb.extBut _ _ n2 (sa.extBut _ _ n1 q))
    have i1c : hc.IsTupleIter i1 l1 (k1 + 1) := ib.extBut sc.extBut D.i12
    refine wpAny_pure ⟨_, rfl, ?_⟩
    change Q (.ref hc.objs.size) _
    have new : PairAt (hc.push { cls := .type "tuple", data := .seq #[x, y] }) hc.objs.size x y := Heap.get?_push_size _ rfl
    have sz : (hc.push { cls := .type "tuple", data := .seq #[x, y] }).objs.size = hc.objs.size + 1 := Heap.size_push ..
    rw [size] at new sz ⊢
    exact hQ _ g true (Heap.get?_push_of_some _ zc) hg ⟨_, _, Heap.get?_push_of_some _ (keep _ _ D.TOz D.TOi1 D.TOi2 hTO)⟩ (i1c.at fun o q => Heap.get?_push_of_some _ q) (ic.at fun o q => Heap.get?_push_of_some _ q) new sz
      fun c o n1 _ n3 n4 q => Heap.get?_push_of_some _ (keep c o n1 n3 n4 q)
/-- next of such a zip, one has none -/
theorem zipF_end {z TI TO i1 i2 l1 l2 : Addr} {k1 k2 : Nat} {xs ys : Array Value} {g : Value} {b : Bool} {Q : PySem.Fin → Shared → Prop} (hh : A.handled = none) (D : ZipApart z TI TO i1 i2 l1 l2) (hz : ZipF s.heap z TI TO g b) (hg : Gv g)
    (hTI : PairAt s.heap TI (.ref i1) (.ref i2)) (hTO : ∃ u v, PairAt s.heap TO u v) (h1 : s.heap.IsTupleIter i1 l1 k1) (h2 : s.heap.IsTupleIter i2 l2 k2) (hl1 : s.heap.IsTuple l1 xs) (hl2 : s.heap.IsTuple l2 ys)
    (hend : xs[k1]? = none ∨ ys[k2]? = none)
    (hE : ∀ h' e, (∀ c o, c ≠ z → c ≠ TO → c ≠ i1 → c ≠ i2 → s.heap.get? c = some o → h'.get? c = some o) → (∃ o, h'.get? e = some o ∧ o.cls = .type "StopIteration") → E (.ref e) { s with heap := h' }) :
    wpAny (model prog w) A (Builtin.«zip.__next__» ⟨[.ref z], []⟩) Q E s := by
  change wpAny _ _ (field (.ref z) 2 >>= _) _ _ _
  apply wpAny_bind
  apply wpAny_field hz rfl (x := .bool false) rfl
  change wpAny _ _ (field (.ref z) 3 >>= _) _ _ _
  apply wpAny_bind
  apply wpAny_field hz rfl (x := .ref TI) rfl
  apply wpAny_bind
  apply wpAny_seqItems hTI rfl
  change wpAny _ _ (Builtin.SmallTypes.ownedTupleIsFree (.ref z) >>= _) _ _ _
  apply wpAny_bind
  obtain ⟨u0, v0, hTO⟩ := hTO
  refine owned_any hz hg ?_ fun ha za sa => ?_
  · simp only [if_true]
    refine wpAny_bind (wpAny_rule (wpAny_bind (wpAny_field hz rfl (x := .ref TO) rfl (wpAny_bind (wpAny_setField_rec hz (by simp) fun ha za sa => ?_)))))
    replace za : ZipF ha z TI TO .ellipsis b := za
    apply wpAny_bind
    simp only [List.zipIdx_cons, List.zipIdx_nil, List.forIn_cons, List.forIn_nil]
    refine wpAny_bind (wpAny_bind (wpAny_onRaise ?_))
    change wpAny _ _ (Builtin.SmallTypes.nextOf (.ref i1) >>= _) _ _ _
    have i1a := h1.extBut sa.extBut D.i1z
    have l1a := hl1.extBut sa.extBut D.l1z
    cases hx : xs[k1]? with
    | none =>
      refine wpAny_bind (nextOf_tuple_end hh i1a l1a hx fun hb e sb ⟨oe, ge, ce⟩ => ?_)
      have zb : ZipF hb z TI TO .ellipsis b := sb _ _ D.i1z.symm za
      have ez : e ≠ z := fun q => by
        rw [q, zb] at ge
        cases ge
        simp at ce
      refine wpAny_setField_rec zb (by simp) fun hc _ sc => hE hc e (fun c o n1 _ n3 _ q => sc.extBut _ _ n1 (sb _ _ n3 (sa.extBut _ _ n1 q))) ⟨oe, sc.extBut _ _ ez ge, ce⟩
    | some x =>
      have hy : ys[k2]? = none := hend.resolve_left fun q => by rw [hx] at q; cases q
      refine wpAny_bind (nextOf_tuple_item i1a l1a hx fun hb ib sb => wpAny_pure ?_)
      have tb : PairAt hb TO u0 v0 := sb.extBut _ _ D.TOi1 (sa.extBut _ _ D.TOz hTO)
      refine wpAny_bind (wpAny_seqItems tb rfl (wpAny_bind (wpAny_updateSeq_pair tb fun hc tc sc => ?_)))
      refine wpAny_bind (wpAny_letGo (wpAny_pure ?_))
      refine wpAny_bind (wpAny_bind (wpAny_onRaise ?_))
      change wpAny _ _ (Builtin.SmallTypes.nextOf (.ref i2) >>= _) _ _ _
      have i2c := ((h2.extBut sa.extBut D.i2z).extBut sb.extBut D.i12.symm).extBut sc.extBut D.TOi2.symm
      have l2c := ((hl2.extBut sa.extBut D.l2z).extBut sb.extBut D.l2i1).extBut sc.extBut D.l2TO
      refine wpAny_bind (nextOf_tuple_end hh i2c l2c hy fun hd e sd ⟨oe, ge, ce⟩ => ?_)
      have zd : ZipF hd z TI TO .ellipsis b := sd _ _ D.i2z.symm (sc.extBut _ _ D.TOz.symm (sb.extBut _ _ D.i1z.symm za))
      have ez : e ≠ z := fun q => by
        rw [q, zd] at ge
        cases ge
        simp at ce
      refine wpAny_setField_rec zd (by simp) fun hf _ sf => hE hf e (fun c o n1 n2 n3 n4 q => sf.extBut _ _ n1 (sd _ _ n4 (sc.extBut _ _ n2 (sb.extBut _ _ n3 (sa.extBut _ _ n1 q))))) ⟨oe, sf.extBut _ _ ez ge, ce⟩
  · simp only [Bool.false_eq_true, if_false]
    apply wpAny_bind
    rw [← Array.forIn_toList]
    simp only [List.forIn_cons, List.forIn_nil]
    refine wpAny_bind (wpAny_bind (wpAny_holding ?_))
    change wpAny _ _ (Builtin.SmallTypes.nextOf (.ref i1) >>= _) _ _ _
    have i1a := h1.extBut sa.extBut D.i1z
    have l1a := hl1.extBut sa.extBut D.l1z
    cases hx : xs[k1]? with
    | none => exact wpAny_bind (nextOf_tuple_end (s := { s with heap := ha }) hh i1a l1a hx fun hb e sb he => hE hb e (fun c o n1 _ n3 _ q => sb _ _ n3 (sa.extBut _ _ n1 q)) he)
    | some x =>
      have hy : ys[k2]? = none := hend.resolve_left fun q => by rw [hx] at q; cases q
      refine wpAny_bind (nextOf_tuple_item (s := { s with heap := ha }) i1a l1a hx fun hb ib sb => wpAny_pure (wpAny_pure ?_))
      refine wpAny_bind (wpAny_bind (wpAny_holding ?_))
      change wpAny _ _ (Builtin.SmallTypes.nextOf (.ref i2) >>= _) _ _ _
      exact wpAny_bind (nextOf_tuple_end (s := { s with heap := hb }) hh ((h2.extBut sa.extBut D.i2z).extBut sb.extBut D.i12.symm) ((hl2.extBut sa.extBut D.l2z).extBut sb.extBut D.l2i1) hy fun hc e sc he =>
        hE hc e (fun c o n1 _ n3 n4 q => sc _ _ n4 (sb.extBut _ _ n3 (sa.extBut _ _ n1 q))) he)
/-- next of an enumerate over whatever gives x and leaves the enumerate alone -/
theorem enum_next {e it : Addr} {i : Nat} {old : Value} {Q : Option Value → Shared → Prop} (he : IsEnum s.heap e it i old)
    (hn : wpAny (model prog w) A.in1 (Builtin.SmallTypes.nextOf (.ref it)) (fun x s1 => IsEnum s1.heap e it i old ∧ ∀ h' tk, IsEnumOut h' e it ((i : Int) + 1) x s1.heap.objs.size →
      h'.get? s1.heap.objs.size = some { cls := .type "tuple", data := .seq #[.int i tk, x] } → h'.objs.size = s1.heap.objs.size + 1 → (∀ b o, b ≠ e → s1.heap.get? b = some o → h'.get? b = some o) →
        Q (some (.ref s1.heap.objs.size)) { s1 with heap := h', toks := tk + 1 }) (fun v s1 => s1.TypeIs v "StopIteration" ∧ Q none s1) s) : wpAny (model prog w) A (pyNext (.ref e)) Q E s := by
  have ty : s.TypeIs (.ref e) "enumerate" := ⟨_, he, rfl⟩
  unfold pyNext
  apply wpAny_bind
  apply wpAny_attempt
  apply wpAny_callSpecial?_slot (name := Str.ofString "__next__") ty F.slot_enumerate_next
  apply wpAny_call_entry F.slot_enumerate_next ty F.entry_enumerate_next _ (F.args_enumerate_next_1 _)
  change wpAny _ _ (field (.ref e) 2 >>= _) _ _ _
  apply wpAny_bind
  apply wpAny_field he rfl (x := .ref it) rfl
  apply wpAny_bind
  refine wpAny_mono hn (fun x s1 hq => ?_) (fun v s1 hq => ?_)
  · obtain ⟨e1, q⟩ := hq
    obtain ⟨hp, gn, dr, tk, os⟩ := s1
    dsimp only at e1 q
    change wpAny _ _ (field (.ref e) 3 >>= _) _ _ _
    refine wpAny_bind (wpAny_field e1 rfl (x := rawInt i) rfl ?_)
    change wpAny _ _ (field (.ref e) 4 >>= _) _ _ _
    refine wpAny_bind (wpAny_field e1 rfl (x := .none) rfl ?_)
    change wpAny _ _ (mkInt i >>= _) _ _ _
    refine wpAny_bind (wpAny_mkInt ?_)
    change wpAny _ _ (setField (.ref e) 3 (rawInt ((i : Int) + 1)) >>= _) _ _ ⟨hp, gn, dr, tk + 1, os⟩
    refine wpAny_bind (wpAny_setField_rec e1 (by simp) fun ha ea sa => ?_)
    replace ea : IsEnum ha e it ((i : Int) + 1) old := ea
    replace sa : Heap.SameBut e hp ha := sa
    change wpAny _ _ (setField (.ref e) 4 .none >>= _) _ _ ⟨ha, gn, dr, tk + 1, os⟩
    refine wpAny_bind (wpAny_setField_rec ea (by simp) fun hb eb sb => ?_)
    replace eb : IsEnum hb e it ((i : Int) + 1) old := eb
    replace sb : Heap.SameBut e ha hb := sb
    change wpAny _ _ (newTuple [.int i tk, x] >>= _) _ _ ⟨hb, gn, dr, tk + 1, os⟩
    refine wpAny_bind (wpAny_newTuple ?_)
    have size : hb.objs.size = hp.objs.size := by rw [sb.1, sa.1]
    have elt : e < hb.objs.size := Heap.lt_size eb
    have ec : IsEnum (hb.push { cls := .type "tuple", data := .seq #[.int i tk, x] }) e it ((i : Int) + 1) old := Heap.get?_push_of_some _ eb
    change wpAny _ _ (Builtin.SmallTypes.ownedTupleIsFree (.ref e) >>= _) _ _ _
    apply wpAny_bind
    unfold Builtin.SmallTypes.ownedTupleIsFree
    refine wpAny_bind (wpAny_field ec rfl (x := .none) rfl (wpAny_pure ?_))
    simp only [if_true]
    refine wpAny_bind (wpAny_rule (wpAny_bind (wpAny_field ec rfl (x := old) rfl ?_)))
    refine wpAny_bind (wpAny_setField_rec ec (by simp) fun hd ed sd => ?_)
    replace ed : IsEnum hd e it ((i : Int) + 1) x := ed
    change wpAny _ _ (Builtin.SmallTypes.ownedTupleHandOut (.ref e) (.ref hb.objs.size) >>= _) _ _ _
    apply wpAny_bind
    unfold Builtin.SmallTypes.ownedTupleHandOut
    refine wpAny_bind (wpAny_setField_rec ed (by simp) fun hf ef sf => ?_)
    replace ef : IsEnumOut hf e it ((i : Int) + 1) x hb.objs.size := ef
    refine wpAny_setField_rec ef (by simp) fun hg eg sg => ?_
    replace eg : IsEnumOut hg e it ((i : Int) + 1) x hb.objs.size := eg
    have on : ∀ c o, c ≠ e → hb.get? c = some o → hg.get? c = some o := fun c o n z => sg.extBut _ _ n (sf.extBut _ _ n (sd.extBut _ _ n (Heap.get?_push_of_some _ z)))
    have new : hg.get? hb.objs.size = some { cls := .type "tuple", data := .seq #[.int i tk, x] } := sg.extBut _ _ (Nat.ne_of_gt elt) (sf.extBut _ _ (Nat.ne_of_gt elt) (sd.extBut _ _ (Nat.ne_of_gt elt) (Heap.get?_push_size _ rfl)))
    have sz : hg.objs.size = hb.objs.size + 1 := by rw [sg.1, sf.1, sd.1, Heap.size_push]
    rw [size] at eg new sz ⊢
    refine wpAny_bind (wpAny_letGo (wpAny_pure ⟨_, rfl, ?_⟩))
    refine wpAny_pure (q hg tk eg new sz fun b o n z => on b o n (sb.extBut _ _ n (sa.extBut _ _ n z)))
  · obtain ⟨ht, q⟩ := hq
    refine wpAny_bind (wpAny_isInstance (T := "StopIteration") (b := true) ht isSubtype_stop ?_)
    exact wpAny_pure q
end
open AutoSeq1 (wpAny_loadPart')
theorem meets_enumZ (z TI TO : Addr) :
    Meets (Builtin.«enumerate.__new__» ⟨[.type "enumerate", .ref z], []⟩) (fun _ R s => IsZip s.heap z TI TO .none ∧
      R (.ok (.ret (.ref s.heap.objs.size))) { s with heap := s.heap.push { cls := .type "enumerate", data := .fields #[.none, .bool false, .ref z, rawInt 0, .none, .none] } }) :=
  .of_wp fun prog w A R s h => by
    obtain ⟨hp, g, d, tk, os⟩ := s
    obtain ⟨hz, h⟩ := h
    have hsub := sub_enumerate
    have hZ : IsZip (Shared.heap ⟨hp, g, d, tk, os⟩) z TI TO .none := hz
    wp_walk using wpAny_loadPart' hz
    refine wpAny_stack_any fun st => wpAny_pure ?_
    split
    · rename_i c _ _ _ _ _
      cases (c == Value.type "enumerate") <;> (wp_walk using wpAny_loadPart' hz, wpAny_pyIter_zip hZ) <;> exact ⟨_, rfl, h⟩
    · wp_walk using wpAny_loadPart' hz, wpAny_pyIter_zip hZ
      exact ⟨_, rfl, h⟩
section
variable {prog : Program} {w : World} {A : Around} {E : Value → Shared → Prop} {s : Shared}
theorem call_enumZ {z TI TO : Addr} {Q : Value → Shared → Prop} (hz : IsZip s.heap z TI TO .none)
    (h : ∀ h', IsEnum h' s.heap.objs.size z 0 .none → (∀ b o, s.heap.get? b = some o → h'.get? b = some o) → Q (.ref s.heap.objs.size) { s with heap := h' }) :
    wpAny (model prog w) A (call (.type "enumerate") [.ref z]) Q E s := by
  refine callType_new F.called_enumerate (by decide) (F.typeCall_enumerate_1 _) (F.newCall_enumerate_1 _) (fun obj => F.args_object_init_2 obj _) F.entry_enumerate_new (meets_enumZ z TI TO) ⟨hz, ?_⟩
  have he : (s.heap.push { cls := .type "enumerate", data := .fields #[.none, .bool false, .ref z, rawInt 0, .none, .none] }).get? s.heap.objs.size = some _ := Heap.get?_push_size _ rfl
  exact ⟨⟨_, he, rfl⟩, h _ he fun b o x => Heap.get?_push_of_some _ x⟩
end
def IteZ (K : PySem.W.Frag) (a b : Addr) : It where
  go := fun i H => ∃ (xs ys : List V) (x y : V), SqT K H a xs ∧ SqT K H b ys ∧ xs[i]? = some x ∧ ys[i]? = some y
  yld := fun i H v H' => ∃ T P x y, v = .ref T ∧ H P = none ∧ H T = none ∧ T ≠ P ∧ H' = upd (upd H P (.tup [x, y])) T (.tup [.int (i : Nat), .ref P]) ∧ (∀ xs, SqT K H a xs → xs[i]? = some x) ∧ ∀ ys, SqT K H b ys → ys[i]? = some y
  stop := fun i H => ∃ xs ys : List V, SqT K H a xs ∧ SqT K H b ys ∧ (xs.length ≤ i ∨ ys.length ≤ i)
structure EZ (e z TI TO i1 i2 a b : Addr) : Prop where
  D : ZipApart z TI TO i1 i2 a b
  ez : e ≠ z
  eI : e ≠ TI
  eO : e ≠ TO
  e1 : e ≠ i1
  e2 : e ≠ i2
abbrev ezSt (e z TI TO i1 i2 a b : Addr) (i : Nat) (h : Heap) : Prop :=
  (∃ old, IsEnum h e z ((i : Nat) : Int) old) ∧ (∃ g c, ZipF h z TI TO g c ∧ Gv g) ∧ PairAt h TI (.ref i1) (.ref i2) ∧ (∃ u v, PairAt h TO u v) ∧ h.IsTupleIter i1 a i ∧ h.IsTupleIter i2 b i
theorem turn_enumZ {P : Program} {w : World} {K : PySem.W.Frag} {elts : List Expr} {kk : Nat} {tpos : Pos} {e z TI TO i1 i2 a b : Addr} (Z : EZ e z TI TO i1 i2 a b) :
    Turn P w K (.Tuple elts kk tpos) (IteZ K a b) [e, z, TI, TO, i1, i2] e (ezSt e z TI TO i1 i2 a b) where
  mem := List.mem_cons_self
  obj := by
    rintro i h ⟨⟨old, he⟩, ⟨g, c, hz, _⟩, hI, ⟨u, v, hO⟩, ⟨o1, g1, _, d1⟩, ⟨o2, g2, _, d2⟩⟩ q hq
    simp only [List.mem_cons, List.not_mem_nil, or_false] at hq
    rcases hq with rfl | rfl | rfl | rfl | rfl | rfl
    · exact ⟨_, he, fun _ z => nomatch z⟩
    · exact ⟨_, hz, fun _ z => nomatch z⟩
    · exact ⟨_, hI, fun _ z => nomatch z⟩
    · exact ⟨_, hO, fun _ z => nomatch z⟩
    · exact ⟨o1, g1, fun _ z => by rw [d1] at z; cases z⟩
    · exact ⟨o2, g2, fun _ z => by rw [d2] at z; cases z⟩
  keep := by
    rintro i h h' ⟨⟨old, he⟩, ⟨g, c, hz, hg⟩, hI, ⟨u, v, hO⟩, h1, h2⟩ k
    exact ⟨⟨old, k e (by simp) _ he⟩, ⟨g, c, k z (by simp) _ hz, hg⟩, k TI (by simp) _ hI, ⟨u, v, k TO (by simp) _ hO⟩, h1.at fun o q => k i1 (by simp) o q, h2.at fun o q => k i2 (by simp) o q⟩
  item := by
    intro X hP hw hK hc i pn s σ H E J hf st hg
    subst hP hw hK
    obtain ⟨⟨old, he⟩, ⟨g, c, hz, hgv⟩, hI, hO, h1, h2⟩ := st
    obtain ⟨xs, ys, x, y, qx, qy, hx, hy⟩ := hg
    obtain ⟨its, rv, p1, _⟩ := J.tuple qx
    obtain ⟨its2, rv2, p2, _⟩ := J.tuple qy
    obtain ⟨u, hu, ru⟩ := rv.get hx
    obtain ⟨u2, hu2, ru2⟩ := rv2.get hy
    have el : e < s.heap.objs.size := Heap.lt_size he
    have tz : s.TypeIs (.ref z) "zip" := ⟨_, hz, rfl⟩
    have lt : ∀ q ∈ [e, z, TI, TO, i1, i2], q < s.heap.objs.size := by
      intro q hq
      simp only [List.mem_cons, List.not_mem_nil, or_false] at hq
      rcases hq with rfl | rfl | rfl | rfl | rfl | rfl
      · exact el
      · exact Heap.lt_size hz
      · exact Heap.lt_size hI
      · obtain ⟨_, _, q⟩ := hO; exact Heap.lt_size q
      · obtain ⟨_, q, _⟩ := h1; exact Heap.lt_size q
      · obtain ⟨_, q, _⟩ := h2; exact Heap.lt_size q
    refine enum_next he ?_
    unfold Builtin.SmallTypes.nextOf
    refine wpAny_bind (wpAny_callSpecial?_slot (name := Str.ofString "__next__") tz F.slot_zip_next (wpAny_call_entry F.slot_zip_next tz F.entry_zip_next ?_ (F.args_zip_next_1 _)))
    refine zipF_item Z.D hz hgv hI hO h1 h2 p1 p2 (x := u) (y := u2) (by simpa using hu) (by simpa using hu2) fun hA gA bA zA vA oA a1 a2 pA szA kA => ?_
    refine wpAny_pure ⟨kA _ _ Z.ez Z.eO Z.e1 Z.e2 he, fun hB tk eB tB szB kB => ?_⟩
    dsimp only at eB tB szB kB ⊢
    rw [szA] at eB tB szB ⊢
    refine ⟨_, rfl, wpAny_letOwnedTupleGo_enum (s := { s with heap := hB, toks := tk + 1 }) eB fun hC eC sC => ?_⟩
    have ne1 : ∀ q, q < s.heap.objs.size + 1 → q ≠ s.heap.objs.size + 1 := fun q h => Nat.ne_of_lt h
    have npe : s.heap.objs.size ≠ e := Nat.ne_of_gt el
    have upB : ∀ q o, q ≠ e → hA.get? q = some o → hC.get? q = some o := fun q o n z => (sC.2 q n).trans (kB q o n z)
    -- the pair, then the tuple
    have newP : ObjOk X.prog X.w (upd H s.heap.objs.size (.tup [x, y])) hA s.heap.objs.size (.tup [x, y]) := ⟨small_line (by show 2 ≤ 100000; omega), [u, u2], .cons ru (.cons ru2 .nil), ⟨_, pA, rfl, _, rfl⟩⟩
    have J1 : Inv X pn σ (upd H s.heap.objs.size (.tup [x, y])) { s with heap := hA } :=
      J.turnedNew (t' := s.toks) (ch := [e, z, TI, TO, i1, i2]) (fun q o hq z => kA q o (fun t => hq (by simp [t])) (fun t => hq (by simp [t])) (fun t => hq (by simp [t])) (fun t => hq (by simp [t])) z) hf (Nat.le_refl _) newP
    have hf1 : ∀ q ∈ [e], FpOk X pn (upd H s.heap.objs.size (.tup [x, y])) q := fun q hq => by
      obtain ⟨f0, f1⟩ := hf q (by simp at hq; simp [hq])
      exact ⟨by rw [upd_ne (Nat.ne_of_lt (lt q (by simp at hq; simp [hq])))]; exact f0, f1⟩
    have tC : hC.get? (s.heap.objs.size + 1) = some { cls := .type "tuple", data := .seq #[.int i tk, .ref s.heap.objs.size] } := (sC.2 _ (Nat.ne_of_gt (Nat.lt_succ_of_lt el))).trans tB
    have newT : ObjOk X.prog X.w (upd (upd H s.heap.objs.size (.tup [x, y])) (s.heap.objs.size + 1) (.tup [.int (i : Nat), .ref s.heap.objs.size])) hC (s.heap.objs.size + 1) (.tup [.int (i : Nat), .ref s.heap.objs.size]) :=
      ⟨small_line (by show 2 ≤ 100000; omega), [.int i tk, .ref s.heap.objs.size], .cons ⟨_, rfl⟩ (.cons rfl .nil), ⟨_, tC, rfl, _, rfl⟩⟩
    have J2 : Inv X pn σ (upd (upd H s.heap.objs.size (.tup [x, y])) (s.heap.objs.size + 1) (.tup [.int (i : Nat), .ref s.heap.objs.size])) { s with heap := hC, toks := tk + 1 } :=
      J1.turnedNew (ch := [e]) (fun q o hq z => upB q o (fun t => hq (by simp [t])) z) hf1 (by show hA.objs.size ≤ _; rw [szA]; exact Nat.le_refl _) newT
    have fr1 : H (s.heap.objs.size + 1) = none := J.hok.fresh (Nat.le_succ _)
    refine ⟨.ref (s.heap.objs.size + 1), _, J2, rfl, ⟨_, _, x, y, rfl, J.hok.fresh (Nat.le_refl _), fr1, Nat.succ_ne_self _, rfl, fun l hl => by rw [J.tuple_inj hl qx]; exact hx, fun l hl => by rw [J.tuple_inj hl qy]; exact hy⟩, ?_, fun q hq => ?_⟩
    · refine ⟨⟨.ref s.heap.objs.size, ?_⟩, ⟨gA, bA, upB _ _ Z.ez.symm zA, vA⟩, ?_, ?_, a1.at fun o q => upB _ o Z.e1.symm q, a2.at fun o q => upB _ o Z.e2.symm q⟩
      · rw [show ((i + 1 : Nat) : Int) = (i : Int) + 1 by omega]
        exact eC
      · exact upB _ _ Z.eI.symm (kA _ _ Z.D.TIz Z.D.TITO Z.D.TIi1 Z.D.TIi2 hI)
      · obtain ⟨u', v', q⟩ := oA
        exact ⟨u', v', upB _ _ Z.eO.symm q⟩
    · have := lt q hq
      rw [upd_ne (Nat.ne_of_lt (Nat.lt_succ_of_lt this)), upd_ne (Nat.ne_of_lt this)]
      exact (hf q hq).1
  done := by
    intro X hP hw hK hc i pn s σ H E J hf st hg
    subst hP hw hK
    obtain ⟨⟨old, he⟩, ⟨g, c, hz, hgv⟩, hI, hO, h1, h2⟩ := st
    obtain ⟨xs, ys, qx, qy, hend⟩ := hg
    obtain ⟨its, rv, p1, _⟩ := J.tuple qx
    obtain ⟨its2, rv2, p2, _⟩ := J.tuple qy
    have l1 := rv.length
    have l2 := rv2.length
    have ends : its.toArray[i]? = none ∨ its2.toArray[i]? = none := by
      rcases hend with q | q
      · exact .inl (by simp; omega)
      · exact .inr (by simp; omega)
    have tz : s.TypeIs (.ref z) "zip" := ⟨_, hz, rfl⟩
    refine enum_next he ?_
    unfold Builtin.SmallTypes.nextOf
    refine wpAny_bind (wpAny_callSpecial?_slot (name := Str.ofString "__next__") tz F.slot_zip_next (wpAny_call_entry F.slot_zip_next tz F.entry_zip_next ?_ (F.args_zip_next_1 _)))
    refine zipF_end (by show X.A.in1.in1.handled = none; exact J.ok.hd hc) Z.D hz hgv hI hO h1 h2 p1 p2 ends fun h' x k hx => ?_
    obtain ⟨o, ho, hcx⟩ := hx
    exact ⟨⟨o, ho, hcx⟩, rfl, J.turnedL (t' := s.toks) (ch := [e, z, TI, TO, i1, i2]) (fun q o hq z => k q o (fun t => hq (by simp [t])) (fun t => hq (by simp [t])) (fun t => hq (by simp [t])) (fun t => hq (by simp [t])) z) hf⟩
  self := fun A i s Q E ⟨⟨_, he⟩, _⟩ h => wpAny_pyIter_enum he h
def iEnumZ (K : PySem.W.Frag) (ta : TA) : TI := fun σ H R => ta σ H fun vs H1 => ∃ a b xs ys, vs = [.ref a, .ref b] ∧ SqT K H1 a xs ∧ SqT K H1 b ys ∧ R (IteZ K a b) H1
theorem pi_enumZ {X : Cx} {e e2 : Expr} {ta : TA} {p pos p2 pos2 tpos : Pos} {elts : List Expr} {kk : Nat} (hg : Gl X "enumerate") (hm : X.mg "enumerate" = none) (hg2 : Gl X "zip") (hm2 : X.mg "zip" = none) (ha : PA X [e, e2] ta)
    (hs : starEach [Expr.Call (.Name "zip" p2) [e, e2] [] pos2] X.env = [(false, eval (.Call (.Name "zip" p2) [e, e2] [] pos2) X.env)] := by rfl)
    (hs2 : starEach [e, e2] X.env = (false, eval e X.env) :: starEach [e2] X.env := by rfl) (hpl2 : (backTo pos2 (starEach [e2] X.env)).any (·.1) = false := by rfl) :
    PI X (.Tuple elts kk tpos) (.Call (.Name "enumerate" p) [.Call (.Name "zip" p2) [e, e2] [] pos2] [] pos) (iEnumZ X.K ta) := by
  constructor
  intro pn s σ H R J h
  refine Call_ (ld_blt J hg hm boot_enumerate ?_)
  refine PyProof.Rows.callWith_type1 ?_ hs rfl
  rw [hs]
  refine Calls.spliced_cons ?_
  refine Call_ (ld_blt J hg2 hm2 PyProof.Rows.boot_zip ?_)
  refine PyProof.Rows.callWith_type1 (thn (ha.run pos2 pn s σ H _ J h) ?_) hs2 hpl2
  rintro us s1 ⟨vs, H1, J1, r1, a, b, xs, ys, rfl, qx, qy, q⟩
  obtain ⟨u1, u2, rfl, e1, e2'⟩ := vals2 r1
  cases e1
  cases e2'
  obtain ⟨its, rv, p1, _⟩ := J1.tuple qx
  obtain ⟨its2, rv2, p2', _⟩ := J1.tuple qy
  have al : a < s1.heap.objs.size := by obtain ⟨o, ho, _⟩ := p1; exact Heap.lt_size ho
  have bl : b < s1.heap.objs.size := by obtain ⟨o, ho, _⟩ := p2'; exact Heap.lt_size ho
  refine call_zipT (show s1.heap.IsTuple a its.toArray from p1) (show s1.heap.IsTuple b its2.toArray from p2') fun h' hz hTI hTO h1 h2 hsz hk => ?_
  refine Calls.spliced_nil ?_
  refine call_enumZ (s := { s1 with heap := h' }) hz fun h'' he hk2 => wpAny_pyIter_enum he ?_
  have J2 : Inv X pn σ H1 { s1 with heap := h'' } := J1.kept (t' := s1.toks) fun c o z => hk2 c o (hk c o z)
  have sz : (Shared.heap { s1 with heap := h' }).objs.size = s1.heap.objs.size + 5 := hsz
  rw [sz] at he ⊢
  have N := PySem.W.ktu_apart s1.heap.objs.size a b al bl
  refine ⟨s1.heap.objs.size + 5, [s1.heap.objs.size + 5, s1.heap.objs.size + 4, s1.heap.objs.size + 2, s1.heap.objs.size + 3, s1.heap.objs.size, s1.heap.objs.size + 1], _, _, H1, rfl, J2,
    turn_enumZ (e := s1.heap.objs.size + 5) (z := s1.heap.objs.size + 4) (TI := s1.heap.objs.size + 2) (TO := s1.heap.objs.size + 3) (i1 := s1.heap.objs.size) (i2 := s1.heap.objs.size + 1) ⟨N, ?_, ?_, ?_, ?_, ?_⟩,
    ⟨⟨_, he⟩, ⟨_, _, hk2 _ _ hz, .inl rfl⟩, hk2 _ _ hTI, ⟨_, _, hk2 _ _ hTO⟩, h1.at fun o q => hk2 _ o q, h2.at fun o q => hk2 _ o q⟩, fun c hc => ?_, q⟩
  · exact Nat.ne_of_gt (Nat.add_lt_add_left (by decide) _)
  · exact Nat.ne_of_gt (Nat.add_lt_add_left (by decide) _)
  · exact Nat.ne_of_gt (Nat.add_lt_add_left (by decide) _)
  · exact Nat.ne_of_gt (Nat.lt_add_of_pos_right (by decide))
  · exact Nat.ne_of_gt (Nat.add_lt_add_left (by decide) _)
  · have hle : s1.heap.objs.size ≤ c := by
      simp only [List.mem_cons, List.not_mem_nil, or_false] at hc
      rcases hc with rfl | rfl | rfl | rfl | rfl | rfl
      · exact Nat.le_add_right _ _
      · exact Nat.le_add_right _ _
      · exact Nat.le_add_right _ _
      · exact Nat.le_add_right _ _
      · exact Nat.le_refl _
      · exact Nat.le_add_right _ _
    exact J1.fpOk hle (J1.hok.fresh hle)
/-- the i-th of both in a new pair, that in a new tuple behind its number -/
def YNum (xs ys : Nat → Option V) : Nat → Hp → V → Hp → Prop := fun i H v H' => ∃ T P x y, v = .ref T ∧ H P = none ∧ H T = none ∧ T ≠ P ∧ H' = upd (upd H P (.tup [x, y])) T (.tup [.int (i : Nat), .ref P]) ∧ xs i = some x ∧ ys i = some y
theorem walk_enumZ {K : PySem.W.Frag} {a b : Addr} {xs ys : List V} : Walk (IteZ K a b) (min xs.length ys.length) (fun H => SqT K H a xs ∧ SqT K H b ys) (YNum (fun i => xs[i]?) (fun i => ys[i]?)) := by
  constructor
  · intro i H hi q
    exact ⟨xs, ys, xs[i]'(by omega), ys[i]'(by omega), q.1, q.2, by simp [show i < xs.length by omega], by simp [show i < ys.length by omega]⟩
  · intro H q
    exact ⟨xs, ys, q.1, q.2, by omega⟩
  · rintro i H v H' hi q ⟨T, P, x, y, h1, h2, h3, h4, h5, h6, h7⟩
    exact ⟨T, P, x, y, h1, h2, h3, h4, h5, h6 xs q.1, h7 ys q.2⟩
end GS
/-! repr of data with dicts of ints in it, lists aside -/
namespace GS
open PySem PySem.Spec PyProof.Rows L2 RZ
mutual
inductive Dd (K : PySem.W.Frag) (H : Hp) : V → PyData → Prop
  | non : Dd K H .non .none
  | bl (b : Bool) : Dd K H (.bl b) (.bool b)
  | int (i : Int) : Dd K H (.int i) (.int i)
  | str (x : Str) : Dd K H (.str x) (.str x)
  | dct {a : Addr} (kvs : List (Int × Int)) : H a = some (.dK (kvs.map fun p => (Sum.inl p.1, V.int p.2))) → Dd K H (.ref a) (.dict (kvs.map fun p => (PyData.int p.1, PyData.int p.2)))
  | tup {a : Addr} {xs : List V} {ds : List PyData} : SqT K H a xs → DdAll K H xs ds → Dd K H (.ref a) (.tuple ds)
inductive DdAll (K : PySem.W.Frag) (H : Hp) : List V → List PyData → Prop
  | nil : DdAll K H [] []
  | cons {v : V} {vs : List V} {d : PyData} {ds : List PyData} : Dd K H v d → DdAll K H vs ds → DdAll K H (v :: vs) (d :: ds)
end
theorem reads_ints {h : Heap} {P : Program} {w : World} : ∀ {kvs : List (Int × Int)} {vs : List (Key × Value)} {es : List DictEntry}, KV (kvs.map fun p => (Sum.inl p.1, V.int p.2)) vs → Pairs (mixKind P w) es vs →
    ReadsAll h (es.map (·.key)) ((kvs.map fun p => (PyData.int p.1, PyData.int p.2)).map (·.1)) [] ∧ ReadsAll h (es.map (·.val)) ((kvs.map fun p => (PyData.int p.1, PyData.int p.2)).map (·.2)) []
  | [], _, _, k, p => by
    cases k
    cases p
    exact ⟨.nil, .nil⟩
  | x :: kvs, _, _, k, p => by
    cases k with
    | cons k1 k2 =>
      cases p with
      | cons p1 p2 p3 =>
        obtain ⟨h1, h2⟩ := reads_ints k2 p3
        obtain ⟨e1, e2⟩ := k1
        constructor
        · refine ReadsAll.cons (as := []) ?_ h1
          rcases keyIs_shape p1 with ⟨i, t, e3, e4⟩ | ⟨y, t, e3, e4⟩
          · rw [← e1] at e3
            cases e3
            dsimp only
            rw [e4]
            exact .int _ _
          · rw [← e1] at e3
            cases e3
        · refine ReadsAll.cons (as := []) ?_ h2
          dsimp only
          rw [p2]
          obtain ⟨t, e5⟩ := e2
          rw [e5]
          exact .int _ _
section
variable {X : Cx} {pins : List (Addr × Obj)} {σ : L2.St} {H : Hp} {s : Shared}
mutual
theorem Dd.reads (I : Inv X pins σ H s) : ∀ (d : PyData) (v : V) (u : Value), Dd X.K H v d → RelV v u → ∃ as, Reads s.heap u d as ∧ sysModules ∉ as
  | .none, _, _, h, r => by
    cases h
    cases r
    exact ⟨_, Reads.none, List.not_mem_nil⟩
  | .bool b, _, _, h, r => by
    cases h
    cases r
    exact ⟨_, Reads.bool b, List.not_mem_nil⟩
  | .int i, _, _, h, r => by
    cases h
    obtain ⟨t, rfl⟩ := r
    exact ⟨_, Reads.int i t, List.not_mem_nil⟩
  | .str x, _, _, h, r => by
    cases h
    obtain ⟨t, rfl⟩ := r
    exact ⟨_, Reads.str x t, List.not_mem_nil⟩
  | .list ds, _, _, h, r => by cases h
  | .tuple ds, _, _, h, r => by
    cases h with
    | tup hs ha =>
      cases r
      obtain ⟨its, rv, ⟨o, ho, hc, n, hd⟩, _⟩ := I.tuple hs
      obtain ⟨as, hr, na⟩ := Dd.readsAll I ds _ its ha rv
      exact ⟨_, Reads.tuple ho hc hd hr, na⟩
  | .dict ds, _, _, h, r => by
    generalize hd : PyData.dict ds = d at h
    cases h with
    | dct kvs hs =>
      cases hd
      cases r
      obtain ⟨_, ns, vs, kv, o, es, ep, ho, hx, hd, _, hp, _⟩ := (show ObjOk X.prog X.w H s.heap _ (.dK _) from I.hok _ _ hs)
      obtain ⟨h1, h2⟩ := reads_ints (h := s.heap) kv hp
      refine ⟨_, Reads.dict ho hx.1 hd h1 h2, ?_⟩
      intro z
      simp only [List.append_nil, List.mem_cons, List.not_mem_nil, or_false] at z
      rw [← z] at ns
      exact absurd ns (by decide)
    | _ => cases hd
theorem Dd.readsAll (I : Inv X pins σ H s) : ∀ (ds : List PyData) (vs : List V) (us : List Value), DdAll X.K H vs ds → Vals vs us → ∃ as, ReadsAll s.heap us ds as ∧ sysModules ∉ as
  | [], _, _, h, r => by
    cases h
    cases r
    exact ⟨_, ReadsAll.nil, List.not_mem_nil⟩
  | d :: ds, _, _, h, r => by
    cases h with
    | cons h1 h2 =>
      cases r with
      | cons r1 r2 =>
        obtain ⟨as, q1, n1⟩ := Dd.reads I d _ _ h1 r1
        obtain ⟨bs, q2, n2⟩ := Dd.readsAll I ds _ _ h2 r2
        exact ⟨_, ReadsAll.cons q1 q2, fun z => (List.mem_append.mp z).elim n1 n2⟩
end
end
/-- all but the tables stay -/
abbrev KeepN (H H' : Hp) : Prop := ∀ b o, H b = some o → (∀ ps, o ≠ .tbl ps) → H' b = some o
theorem rd_keep {H H' : Hp} {a : Addr} {u : HO} (r : Rd H a u) (n : ∀ ps, u ≠ .tbl ps) (s : KeepN H H') : Rd H' a u :=
  r.imp (fun h => s _ _ h n) fun ⟨o, h⟩ => ⟨o, s _ _ h fun _ z => nomatch z⟩
theorem sqL_keep {K : PySem.W.Frag} {H H' : Hp} {a : Addr} {xs : List V} (h : SqL K H a xs) (s : KeepN H H') : SqL K H' a xs := h.imp (fun r => rd_keep r (fun _ z => nomatch z) s) fun z => z
theorem sqT_keep {K : PySem.W.Frag} {H H' : Hp} {a : Addr} {xs : List V} (h : SqT K H a xs) (s : KeepN H H') : SqT K H' a xs := h.imp (fun r => rd_keep r (fun _ z => nomatch z) s) fun z => z
section
variable {K : PySem.W.Frag} {H H' : Hp}
mutual
theorem Dp.keep (s : KeepN H H') : ∀ (d : PyData) (v : V), Dp K H v d → Dp K H' v d
  | .none, _, h => by cases h; exact .non
  | .bool b, _, h => by cases h; exact .bl b
  | .int i, _, h => by cases h; exact .int i
  | .str x, _, h => by cases h; exact .str x
  | .list ds, _, h => by
    cases h with
    | lst hs ha => exact .lst (sqL_keep hs s) (DpAll.keep s ds _ ha)
  | .tuple ds, _, h => by
    cases h with
    | tup hs ha => exact .tup (sqT_keep hs s) (DpAll.keep s ds _ ha)
  | .dict _, _, h => by cases h
theorem DpAll.keep (s : KeepN H H') : ∀ (ds : List PyData) (vs : List V), DpAll K H vs ds → DpAll K H' vs ds
  | [], _, h => by cases h; exact .nil
  | d :: ds, _, h => by
    cases h with
    | cons h1 h2 => exact .cons (Dp.keep s d _ h1) (DpAll.keep s ds _ h2)
end
mutual
theorem Dd.keep (s : KeepN H H') : ∀ (d : PyData) (v : V), Dd K H v d → Dd K H' v d
  | .none, _, h => by cases h; exact .non
  | .bool b, _, h => by cases h; exact .bl b
  | .int i, _, h => by cases h; exact .int i
  | .str x, _, h => by cases h; exact .str x
  | .list ds, _, h => by cases h
  | .tuple ds, _, h => by
    cases h with
    | tup hs ha => exact .tup (sqT_keep hs s) (DdAll.keep s ds _ ha)
  | .dict ds, _, h => by
    generalize hd : PyData.dict ds = d at h
    cases h with
    | dct kvs hs => exact .dct kvs (s _ _ hs fun _ z => nomatch z)
    | _ => cases hd
theorem DdAll.keep (s : KeepN H H') : ∀ (ds : List PyData) (vs : List V), DdAll K H vs ds → DdAll K H' vs ds
  | [], _, h => by cases h; exact .nil
  | d :: ds, _, h => by
    cases h with
    | cons h1 h2 => exact .cons (Dd.keep s d _ h1) (DdAll.keep s ds _ h2)
end
end
/-- small data: it can be shown -/
structure Sx (n k : Nat) (d : PyData) : Prop where
  a : d.showable = true
  c : d.depth ≤ k
  d : d.shown.length ≤ n
theorem Sx.more {n n' k k' : Nat} {d : PyData} (h : Sx n k d) (h1 : n ≤ n') (h2 : k ≤ k') : Sx n' k' d := ⟨h.a, Nat.le_trans h.c h2, Nat.le_trans h.d h1⟩
theorem Sx.int {i : Int} (h : i.natAbs.log2 < 1920) : Sx 1921 0 (.int i) := ⟨decide_eq_true h, Nat.le_refl _, int_text_len_1921 h⟩
theorem sx_all {n k : Nat} : ∀ {ds : List PyData}, (∀ d ∈ ds, Sx n k d) → PyData.showableAll ds = true ∧ PyData.depthAll ds ≤ k ∧ ((PyData.shownAll ds).map (·.length)).sum ≤ n * ds.length ∧ (PyData.shownAll ds).length = ds.length
  | [], _ => ⟨rfl, Nat.zero_le _, Nat.zero_le _, rfl⟩
  | d :: ds, h => by
    obtain ⟨h1, h3, h4, h5⟩ := sx_all (ds := ds) fun e m => h e (List.mem_cons_of_mem _ m)
    have q := h d List.mem_cons_self
    refine ⟨by simp only [PyData.showableAll, q.a, h1, Bool.and_self], ?_, ?_, by simp only [PyData.shownAll, List.length_cons, h5]⟩
    · simp only [PyData.depthAll]
      have := q.c
      omega
    · simp only [PyData.shownAll, List.map_cons, List.sum_cons, List.length_cons]
      have e := q.d
      rw [Nat.mul_add]
      omega
theorem Sx.tuple {n k : Nat} {ds : List PyData} (h : ∀ d ∈ ds, Sx n k d) : Sx (n * ds.length + 2 * ds.length + 3) (k + 1) (.tuple ds) := by
  obtain ⟨h1, h3, h4, h5⟩ := sx_all h
  refine ⟨by simpa only [PyData.showable] using h1, by simp only [PyData.depth]; omega, ?_⟩
  simp only [PyData.shown]
  have := tupleText_len_le (PyData.shownAll ds)
  rw [h5] at this
  omega
theorem Sx.list {n k : Nat} {ds : List PyData} (h : ∀ d ∈ ds, Sx n k d) : Sx (n * ds.length + 2 * ds.length + 3) (k + 1) (.list ds) := by
  obtain ⟨h1, h3, h4, h5⟩ := sx_all h
  refine ⟨by simpa only [PyData.showable] using h1, by simp only [PyData.depth]; omega, ?_⟩
  simp only [PyData.shown]
  have := listText_len_le (PyData.shownAll ds)
  rw [h5] at this
  omega
theorem Sx.nodict : Sx 2 1 (.dict []) := ⟨rfl, by decide, by decide +kernel⟩
theorem Sx.dict1 {i j : Int} (hi : i.natAbs.log2 < 1920) (hj : j.natAbs.log2 < 1920) : Sx 3900 1 (.dict [(.int i, .int j)]) := by
  refine ⟨?_, by simp only [PyData.depth, PyData.depthKv]; decide, ?_⟩
  · simp only [PyData.showable, PyData.showableKv, decide_eq_true hi, decide_eq_true hj, Bool.and_self]
  · have h1 := (Sx.int hi).d
    have h2 := (Sx.int hj).d
    simp only [PyData.shown, PyData.shownKv] at h1 h2 ⊢
    have h3 := dictText_len_le [PySem.Str.ofString (toString i) ++ ": " ++ PySem.Str.ofString (toString j)]
    have h4 : (PySem.Str.ofString (toString i) ++ ": " ++ PySem.Str.ofString (toString j) : Str).length = (PySem.Str.ofString (toString i)).length + 2 + (PySem.Str.ofString (toString j)).length := by
      rw [Str.length_append, Str.length_append]
      rfl
    simp only [List.map_cons, List.map_nil, List.sum_cons, List.sum_nil, List.length_cons, List.length_nil] at h3
    refine Nat.le_trans h3 ?_
    rw [h4]
    omega
/-- data that repr shows -/
def Shw (K : PySem.W.Frag) (H : Hp) (v : V) (d : PyData) : Prop := Sx 100000 60 d ∧ ((Dp K H v d ∧ d.hasDict = false) ∨ Dd K H v d)
theorem Shw.keep {K : PySem.W.Frag} {H H' : Hp} {v : V} {d : PyData} (h : Shw K H v d) (s : KeepN H H') : Shw K H' v d :=
  ⟨h.1, h.2.imp (fun z => ⟨Dp.keep s d v z.1, z.2⟩) fun z => Dd.keep s d v z⟩
/-- parts of data that repr shows: without dicts, or without lists -/
def ElP (K : PySem.W.Frag) (H : Hp) (x : V) : Prop := ∃ d, Sx 8000 1 d ∧ Dp K H x d ∧ d.hasDict = false
def ElD (K : PySem.W.Frag) (H : Hp) (x : V) : Prop := ∃ d, Sx 8000 1 d ∧ Dd K H x d
section
variable {K : PySem.W.Frag} {H H' : Hp} {x : V} {a : Addr}
theorem ElP.keep (h : ElP K H x) (s : KeepN H H') : ElP K H' x := let ⟨d, h1, h2, h3⟩ := h; ⟨d, h1, Dp.keep s d x h2, h3⟩
theorem ElD.keep (h : ElD K H x) (s : KeepN H H') : ElD K H' x := let ⟨d, h1, h2⟩ := h; ⟨d, h1, Dd.keep s d x h2⟩
theorem lg {i : Int} (h1 : -100000000000000000000000000000000 ≤ i) (h2 : i ≤ 100000000000000000000000000000000) : i.natAbs.log2 < 1920 := by
  refine log2_small (Nat.lt_of_lt_of_le (m := 2 ^ 107) ?_ (Nat.pow_le_pow_right (by decide) (by decide)))
  have e : (2 : Nat) ^ 107 = 162259276829213363391578010288128 := by decide
  rw [e]
  omega
theorem elP_int {i : Int} (h : i.natAbs.log2 < 1920) : ElP K H (.int i) := ⟨_, (Sx.int h).more (by decide) (by decide), .int i, rfl⟩
theorem elD_int {i : Int} (h : i.natAbs.log2 < 1920) : ElD K H (.int i) := ⟨_, (Sx.int h).more (by decide) (by decide), .int i⟩
theorem elP_non : ElP K H .non := ⟨_, ⟨rfl, by decide, by decide +kernel⟩, .non, rfl⟩
theorem elD_non : ElD K H .non := ⟨_, ⟨rfl, by decide, by decide +kernel⟩, .non⟩
theorem sx_bl (b : Bool) : Sx 8000 1 (.bool b) := by cases b <;> exact ⟨rfl, by decide, by decide +kernel⟩
theorem elP_bl (b : Bool) : ElP K H (.bl b) := ⟨_, sx_bl b, .bl b, rfl⟩
theorem elD_bl (b : Bool) : ElD K H (.bl b) := ⟨_, sx_bl b, .bl b⟩
theorem sx_str {t : Str} (h : (reprText t).length ≤ 8000) : Sx 8000 1 (.str t) := ⟨rfl, Nat.zero_le _, h⟩
theorem elP_str {t : Str} (h : (reprText t).length ≤ 8000) : ElP K H (.str t) := ⟨_, sx_str h, .str t, rfl⟩
theorem elD_str {t : Str} (h : (reprText t).length ≤ 8000) : ElD K H (.str t) := ⟨_, sx_str h, .str t⟩
theorem elD_emp (h : H a = some (.dK [])) : ElD K H (.ref a) := ⟨_, Sx.nodict.more (by decide) (by decide), .dct [] h⟩
theorem elD_one {i j : Int} (h : H a = some (.dK [(Sum.inl i, V.int j)])) (hi : i.natAbs.log2 < 1920) (hj : j.natAbs.log2 < 1920) : ElD K H (.ref a) := ⟨_, (Sx.dict1 hi hj).more (by decide) (by decide), .dct [(i, j)] h⟩
theorem sx_ints {xs : List Int} (h : ∀ x ∈ xs, x.natAbs.log2 < 1920) : ∀ d ∈ xs.map PyData.int, Sx 1921 0 d := by
  intro d m
  obtain ⟨x, hx, rfl⟩ := List.mem_map.mp m
  exact Sx.int (h x hx)
theorem noDict_ints : ∀ xs : List Int, PyData.hasDictAll (xs.map PyData.int) = false
  | [] => rfl
  | x :: xs => by simp only [List.map_cons, PyData.hasDictAll, PyData.hasDict, noDict_ints xs, Bool.or_self]
theorem elP_tupI {xs : List Int} (h : H a = some (.tup (xs.map V.int))) (hl : xs.length ≤ 3) (hx : ∀ x ∈ xs, x.natAbs.log2 < 1920) : ElP K H (.ref a) :=
  ⟨_, (Sx.tuple (sx_ints hx)).more (by rw [List.length_map]; omega) (by decide), dp_tup (SqT.of h), by simp only [PyData.hasDict, noDict_ints]⟩
theorem elP_lstI {xs : List Int} (h : H a = some (.lst (xs.map V.int))) (hl : xs.length ≤ 3) (hx : ∀ x ∈ xs, x.natAbs.log2 < 1920) : ElP K H (.ref a) :=
  ⟨_, (Sx.list (sx_ints hx)).more (by rw [List.length_map]; omega) (by decide), dp_lst (SqL.of h), by simp only [PyData.hasDict, noDict_ints]⟩
theorem elP_all : ∀ {ys : List V}, (∀ y ∈ ys, ElP K H y) → ∃ ds, DpAll K H ys ds ∧ (∀ d ∈ ds, Sx 8000 1 d) ∧ PyData.hasDictAll ds = false ∧ ds.length = ys.length
  | [], _ => ⟨[], .nil, fun _ z => (nomatch z), rfl, rfl⟩
  | y :: ys, h => by
    obtain ⟨ds, h1, h2, h3, h4⟩ := elP_all (ys := ys) fun z m => h z (List.mem_cons_of_mem _ m)
    obtain ⟨d, k1, k2, k3⟩ := h y List.mem_cons_self
    refine ⟨d :: ds, .cons k2 h1, fun e m => ?_, by simp only [PyData.hasDictAll, k3, h3, Bool.or_self], by rw [List.length_cons, List.length_cons, h4]⟩
    rcases List.mem_cons.mp m with rfl | m
    · exact k1
    · exact h2 e m
theorem elD_all : ∀ {ys : List V}, (∀ y ∈ ys, ElD K H y) → ∃ ds, DdAll K H ys ds ∧ (∀ d ∈ ds, Sx 8000 1 d) ∧ ds.length = ys.length
  | [], _ => ⟨[], .nil, fun _ z => (nomatch z), rfl⟩
  | y :: ys, h => by
    obtain ⟨ds, h1, h2, h4⟩ := elD_all (ys := ys) fun z m => h z (List.mem_cons_of_mem _ m)
    obtain ⟨d, k1, k2⟩ := h y List.mem_cons_self
    refine ⟨d :: ds, .cons k2 h1, fun e m => ?_, by rw [List.length_cons, List.length_cons, h4]⟩
    rcases List.mem_cons.mp m with rfl | m
    · exact k1
    · exact h2 e m
theorem shw_el (h : ElP K H x) : ∃ d, Shw K H x d := let ⟨d, h1, h2, h3⟩ := h; ⟨d, h1.more (by decide) (by decide), .inl ⟨h2, h3⟩⟩
theorem shw_elD (h : ElD K H x) : ∃ d, Shw K H x d := let ⟨d, h1, h2⟩ := h; ⟨d, h1.more (by decide) (by decide), .inr h2⟩
theorem shw_tup {ys : List V} (h : H a = some (.tup ys)) (hl : ys.length ≤ 5) (hy : ∀ y ∈ ys, ElP K H y) : ∃ d, Shw K H (.ref a) d := by
  obtain ⟨ds, h1, h2, h3, h4⟩ := elP_all hy
  exact ⟨_, (Sx.tuple h2).more (by omega) (by decide), .inl ⟨.tup (SqT.of h) h1, by simp only [PyData.hasDict, h3]⟩⟩
theorem shw_lst {ys : List V} (h : H a = some (.lst ys)) (hl : ys.length ≤ 5) (hy : ∀ y ∈ ys, ElP K H y) : ∃ d, Shw K H (.ref a) d := by
  obtain ⟨ds, h1, h2, h3, h4⟩ := elP_all hy
  exact ⟨_, (Sx.list h2).more (by omega) (by decide), .inl ⟨.lst (SqL.of h) h1, by simp only [PyData.hasDict, h3]⟩⟩
theorem shw_tupD {ys : List V} (h : H a = some (.tup ys)) (hl : ys.length ≤ 5) (hy : ∀ y ∈ ys, ElD K H y) : ∃ d, Shw K H (.ref a) d := by
  obtain ⟨ds, h1, h2, h4⟩ := elD_all hy
  exact ⟨_, (Sx.tuple h2).more (by omega) (by decide), .inr (.tup (SqT.of h) h1)⟩
end
def rShwX (K : PySem.W.Frag) : List V → Hp → VK → Prop := fun xs H Q => ∃ (v : V) (d : PyData), xs = [v] ∧ Shw K H v d ∧ Q (.str d.shown) H
def rStrI : List V → Hp → VK → Prop := fun xs H Q => ∃ i : Int, xs = [.int i] ∧ i.natAbs.log2 < 1920 ∧ Q (.str (toString i)) H
section
variable {X : Cx}
theorem call_strI : CallR X (.type "str") rStrI := call_str_int
theorem call_shwX (hA : Clr X.A) (hu : X.A.units + 64 < cLine) : CallR X (.builtin "repr") (rShwX X.K) := by
  intro pn s σ H xs us Q J r h
  obtain ⟨v, d, rfl, ⟨sx, hd | hd⟩, q⟩ := h
  · exact call_shw hA hu pn s σ H [v] us Q J r ⟨v, d, rfl, hd.1, sx.a, hd.2, sx.c, small_line sx.d, q⟩
  obtain ⟨u, rfl, r1⟩ := vals1 r
  have h3 := sx.c
  have h1 := sx.a
  have h4 := small_line sx.d
  have big : ∀ a, v = .ref a → wpAny (model X.prog X.w) X.A (call (.builtin "repr") [u]) (EP X pn σ Q) X.xe s := by
    intro a e
    subst e
    cases r1
    obtain ⟨as, rd, na⟩ := Dd.reads J d _ _ hd rfl
    exact repr_of_reads' rd h1 (fun _ => na) hA (by omega) (fun _ _ z => z) (fun h' u tk hk => ⟨.str _, H, J.kept hk, ⟨_, rfl⟩, q⟩) h4
  cases hd with
  | non =>
    cases r1
    exact PySem.P.repr_of_none ⟨.str _, H, J.tok _, ⟨_, rfl⟩, q⟩
  | bl b =>
    cases r1
    exact PySem.P.repr_of_bool ⟨.str _, H, J.tok _, ⟨_, rfl⟩, q⟩
  | int i =>
    obtain ⟨t, rfl⟩ := r1
    exact PySem.P.repr_of_int (of_decide_eq_true h1) ⟨.str _, H, J.tok _, ⟨_, rfl⟩, q⟩
  | str x =>
    obtain ⟨t, rfl⟩ := r1
    exact PySem.P.repr_of_str ⟨.str _, H, J.tok _, ⟨_, rfl⟩, q⟩ h4
  | dct h => exact big _ rfl
  | tup h g => exact big _ rfl
end
end GS
namespace K17
open PySem PySem.Spec PyProof.Rows L2 RZ GS
def topS (i : Nat) : Stmt := PySem.Challenge.pw_gridshares_k17_what_is_no_cell.main.body.getD i (.Pass ⟨0, 0, 0, 0⟩)
abbrev stis_whole : Stmt := topS 19
abbrev Nis_whole : List Str := ["thing"]
theorem scis_whole : FnScope Nis_whole ["thing"] (defScope stis_whole) := ⟨rfl, rfl, rfl, by decide +kernel, rfl, by decide +kernel, by decide +kernel⟩
abbrev stis_whole_from : Stmt := topS 20
abbrev Nis_whole_from : List Str := ["least", "most", "thing"]
theorem scis_whole_from : FnScope Nis_whole_from ["least", "most", "thing"] (defScope stis_whole_from) := ⟨rfl, rfl, rfl, by decide +kernel, rfl, by decide +kernel, by decide +kernel⟩
abbrev stturned_share : Stmt := topS 22
abbrev Nturned_share : List Str := ["share", "column"]
theorem scturned_share : FnScope Nturned_share ["share"] (defScope stturned_share) := ⟨rfl, rfl, rfl, by decide +kernel, rfl, by decide +kernel, by decide +kernel⟩
abbrev strows_beyond : Stmt := topS 23
abbrev Nrows_beyond : List Str := ["share", "column", "length"]
theorem scrows_beyond : FnScope Nrows_beyond ["share", "column"] (defScope strows_beyond) := ⟨rfl, rfl, rfl, by decide +kernel, rfl, by decide +kernel, by decide +kernel⟩
abbrev sthook_of : Stmt := topS 25
abbrev Nhook_of : List Str := ["share", "cell", "row", "column"]
theorem schook_of : FnScope Nhook_of ["share", "cell"] (defScope sthook_of) := ⟨rfl, rfl, rfl, by decide +kernel, rfl, by decide +kernel, by decide +kernel⟩
abbrev sthooks_of : Stmt := topS 26
abbrev Nhooks_of : List Str := ["share", "turned", "row", "length"]
theorem schooks_of : FnScope Nhooks_of ["share"] (defScope sthooks_of) := ⟨rfl, rfl, rfl, by decide +kernel, rfl, by decide +kernel, by decide +kernel⟩
abbrev sthooks_of_row : Stmt := topS 27
abbrev Nhooks_of_row : List Str := ["row", "length", "turned", "column"]
theorem schooks_of_row : FnScope Nhooks_of_row ["row", "length", "turned"] (defScope sthooks_of_row) := ⟨rfl, rfl, rfl, by decide +kernel, rfl, by decide +kernel, by decide +kernel⟩
abbrev stis_cell_of : Stmt := topS 28
abbrev Nis_cell_of : List Str := ["share", "thing", "row", "column"]
theorem scis_cell_of : FnScope Nis_cell_of ["share", "thing"] (defScope stis_cell_of) := ⟨rfl, rfl, rfl, by decide +kernel, rfl, by decide +kernel, by decide +kernel⟩
abbrev st_law_pen : Stmt := topS 30
abbrev N_law_pen : List Str := ["_law_script"]
theorem sc_law_pen : FnScope N_law_pen ["_law_script"] (defScope st_law_pen) := ⟨rfl, rfl, rfl, by decide +kernel, rfl, by decide +kernel, by decide +kernel⟩
abbrev st_law_take : Stmt := topS 31
abbrev N_law_take : List Str := ["_law_pen_here", "_law_many", "_law_digit", "_law_at", "_law_cell", "_law_number"]
theorem sc_law_take : FnScope N_law_take ["_law_pen_here", "_law_many"] (defScope st_law_take) := ⟨rfl, rfl, rfl, by decide +kernel, rfl, by decide +kernel, by decide +kernel⟩
abbrev st_law_share : Stmt := topS 32
abbrev N_law_share : List Str := ["_law_pen_here", "_law_most", "_law_many", "_law_way", "_law_long", "_law_rows", "_law_k", "_law_less"]
theorem sc_law_share : FnScope N_law_share ["_law_pen_here", "_law_most"] (defScope st_law_share) := ⟨rfl, rfl, rfl, by decide +kernel, rfl, by decide +kernel, by decide +kernel⟩
abbrev st_law_refused : Stmt := topS 33
abbrev N_law_refused : List Str := ["_law_share_here", "_law_thing", "_law_caught", "e"]
theorem sc_law_refused : FnScope N_law_refused ["_law_share_here", "_law_thing"] (defScope st_law_refused) := ⟨rfl, rfl, rfl, by decide +kernel, rfl, by decide +kernel, by decide +kernel⟩
abbrev st_law_no_cells : Stmt := topS 34
abbrev N_law_no_cells : List Str := ["_law_share_here", "_law_r", "_law_c", "_law_high", "_law_some", "_law_k"]
theorem sc_law_no_cells : FnScope N_law_no_cells ["_law_share_here", "_law_r", "_law_c"] (defScope st_law_no_cells) := ⟨rfl, rfl, rfl, by decide +kernel, rfl, by decide +kernel, by decide +kernel⟩
abbrev stlaw : Stmt := topS 35
abbrev Nlaw : List Str := ["_law_script", "_law_pen_here", "_law_turn", "_law_share_here", "_law_r", "_law_c", "_law_kept", "_law_thing", "_law_shown", "_law_found"]
theorem sclaw : FnScope Nlaw ["_law_script"] (defScope stlaw) := ⟨rfl, rfl, rfl, by decide +kernel, rfl, by decide +kernel, by decide +kernel⟩
structure Txt (K : PySem.W.Frag) (mg : Str → Option Value) (f : Nat → Addr) (fd : Nat → FuncData) : Prop where
  F19 : Fun K "is_whole" "is_whole" stis_whole (f 19) (fd 19)
  g19 : mg "is_whole" = some (.ref (f 19))
  b19 : Binds K (fd 19) ["thing"] []
  F20 : Fun K "is_whole_from" "is_whole_from" stis_whole_from (f 20) (fd 20)
  g20 : mg "is_whole_from" = some (.ref (f 20))
  b20 : Binds K (fd 20) ["least", "most", "thing"] []
  F22 : Fun K "turned_share" "turned_share" stturned_share (f 22) (fd 22)
  g22 : mg "turned_share" = some (.ref (f 22))
  b22 : Binds K (fd 22) ["share"] []
  F23 : Fun K "rows_beyond" "rows_beyond" strows_beyond (f 23) (fd 23)
  g23 : mg "rows_beyond" = some (.ref (f 23))
  b23 : Binds K (fd 23) ["share", "column"] []
  F25 : Fun K "hook_of" "hook_of" sthook_of (f 25) (fd 25)
  g25 : mg "hook_of" = some (.ref (f 25))
  b25 : Binds K (fd 25) ["share", "cell"] []
  F26 : Fun K "hooks_of" "hooks_of" sthooks_of (f 26) (fd 26)
  g26 : mg "hooks_of" = some (.ref (f 26))
  b26 : Binds K (fd 26) ["share"] []
  F27 : Fun K "hooks_of_row" "hooks_of_row" sthooks_of_row (f 27) (fd 27)
  g27 : mg "hooks_of_row" = some (.ref (f 27))
  b27 : Binds K (fd 27) ["row", "length", "turned"] []
  F28 : Fun K "is_cell_of" "is_cell_of" stis_cell_of (f 28) (fd 28)
  g28 : mg "is_cell_of" = some (.ref (f 28))
  b28 : Binds K (fd 28) ["share", "thing"] []
  F30 : Fun K "_law_pen" "_law_pen" st_law_pen (f 30) (fd 30)
  g30 : mg "_law_pen" = some (.ref (f 30))
  b30 : Binds K (fd 30) ["_law_script"] []
  F31 : Fun K "_law_take" "_law_take" st_law_take (f 31) (fd 31)
  g31 : mg "_law_take" = some (.ref (f 31))
  b31 : Binds K (fd 31) ["_law_pen_here", "_law_many"] []
  F32 : Fun K "_law_share" "_law_share" st_law_share (f 32) (fd 32)
  g32 : mg "_law_share" = some (.ref (f 32))
  b32 : Binds K (fd 32) ["_law_pen_here", "_law_most"] []
  F33 : Fun K "_law_refused" "_law_refused" st_law_refused (f 33) (fd 33)
  g33 : mg "_law_refused" = some (.ref (f 33))
  b33 : Binds K (fd 33) ["_law_share_here", "_law_thing"] []
  F34 : Fun K "_law_no_cells" "_law_no_cells" st_law_no_cells (f 34) (fd 34)
  g34 : mg "_law_no_cells" = some (.ref (f 34))
  b34 : Binds K (fd 34) ["_law_share_here", "_law_r", "_law_c"] []
  g1 : mg "GridError" = some (.ref (f 1))
  g2 : mg "NoShare" = some (.ref (f 2))
  g3 : mg "NoBox" = some (.ref (f 3))
  g4 : mg "NoFit" = some (.ref (f 4))
  g5 : mg "NoNumber" = some (.ref (f 5))
  g6 : mg "NoRow" = some (.ref (f 6))
  g7 : mg "NoCell" = some (.ref (f 7))
  g8 : mg "NoChain" = some (.ref (f 8))
  g9 : mg "NoSquare" = some (.ref (f 9))
  g10 : mg "NoFilling" = some (.ref (f 10))
  g11 : mg "NoWalk" = some (.ref (f 11))
  g12 : mg "NoStack" = some (.ref (f 12))
  g13 : mg "NoPile" = some (.ref (f 13))
  g14 : mg "NoWay" = some (.ref (f 14))
  g15 : mg "NoBack" = some (.ref (f 15))
  g16 : mg "NoText" = some (.ref (f 16))
  g17 : mg "NoWord" = some (.ref (f 17))
  x7 : PySem.W.excIn K (f 7) [.type "ValueError", .type "Exception", .type "BaseException", .type "object"] "ValueError.__new__" = true
  k7 : PySem.W.keepIn K (.ref (f 7)) = true
  t7 : PySem.W.typeIn K (.ref (f 7)) = some (.type "type")
  e7 : ExcC K (f 7)
  v7 : PySem.W.kitOne K (.ref (f 7)) (.type "ValueError") = some true
  m7 : PySem.W.exmOne K (.ref (f 7)) (.ref (f 1)) = some true
  q7_1 : PySem.W.kitOne K (.ref (f 7)) (.ref (f 1)) = some true
  q7_2 : PySem.W.kitOne K (.ref (f 7)) (.ref (f 2)) = some false
  q7_3 : PySem.W.kitOne K (.ref (f 7)) (.ref (f 3)) = some false
  q7_4 : PySem.W.kitOne K (.ref (f 7)) (.ref (f 4)) = some false
  q7_5 : PySem.W.kitOne K (.ref (f 7)) (.ref (f 5)) = some false
  q7_6 : PySem.W.kitOne K (.ref (f 7)) (.ref (f 6)) = some false
  q7_7 : PySem.W.kitOne K (.ref (f 7)) (.ref (f 7)) = some true
  q7_8 : PySem.W.kitOne K (.ref (f 7)) (.ref (f 8)) = some false
  q7_9 : PySem.W.kitOne K (.ref (f 7)) (.ref (f 9)) = some false
  q7_10 : PySem.W.kitOne K (.ref (f 7)) (.ref (f 10)) = some false
  q7_11 : PySem.W.kitOne K (.ref (f 7)) (.ref (f 11)) = some false
  q7_12 : PySem.W.kitOne K (.ref (f 7)) (.ref (f 12)) = some false
  q7_13 : PySem.W.kitOne K (.ref (f 7)) (.ref (f 13)) = some false
  q7_14 : PySem.W.kitOne K (.ref (f 7)) (.ref (f 14)) = some false
  q7_15 : PySem.W.kitOne K (.ref (f 7)) (.ref (f 15)) = some false
  q7_16 : PySem.W.kitOne K (.ref (f 7)) (.ref (f 16)) = some false
  q7_17 : PySem.W.kitOne K (.ref (f 7)) (.ref (f 17)) = some false
  m_ValueError : mg "ValueError" = none
  m_abs : mg "abs" = none
  m_bool : mg "bool" = none
  m_enumerate : mg "enumerate" = none
  m_int : mg "int" = none
  m_isinstance : mg "isinstance" = none
  m_len : mg "len" = none
  m_list : mg "list" = none
  m_max : mg "max" = none
  m_range : mg "range" = none
  m_repr : mg "repr" = none
  m_str : mg "str" = none
  m_tuple : mg "tuple" = none
/-! ### the mathematics of shares turned about -/
structure Sh (xs : List Int) : Prop where
  n : xs.length ≤ 20
  a : ∀ x ∈ xs, 1 ≤ x ∧ x ≤ 20
  f : xs.Pairwise (fun x y => y ≤ x)
theorem Sh.tail {x : Int} {xs : List Int} (h : Sh (x :: xs)) : Sh xs :=
  ⟨by have := h.n; rw [List.length_cons] at this; omega, fun y m => h.a y (List.mem_cons_of_mem _ m), (List.pairwise_cons.mp h.f).2⟩
theorem Sh.le {x : Int} {xs : List Int} (h : Sh (x :: xs)) : ∀ y ∈ xs, y ≤ x := (List.pairwise_cons.mp h.f).1
def colN (xs : List Int) (c : Nat) : Nat := (xs.filter fun x => decide ((c : Int) < x)).length
def conj (xs : List Int) : List Int := (List.range (xs.headD 0).toNat).map fun c => (colN xs c : Int)
theorem colN_cons (x : Int) (xs : List Int) (c : Nat) : colN (x :: xs) c = (if (c : Int) < x then 1 else 0) + colN xs c := by
  unfold colN
  rw [List.filter_cons]
  by_cases h : (c : Int) < x
  · rw [if_pos (decide_eq_true h), if_pos h, List.length_cons, Nat.add_comm]
  · rw [if_neg (by rw [decide_eq_true_eq]; exact h), if_neg h, Nat.zero_add]
theorem colN_mono {c c' : Nat} (h : c ≤ c') : ∀ xs : List Int, colN xs c' ≤ colN xs c
  | [] => Nat.le_refl _
  | x :: xs => by
    rw [colN_cons, colN_cons]
    have ih := colN_mono h xs
    split <;> split <;> omega
theorem colN_le (xs : List Int) (c : Nat) : colN xs c ≤ xs.length := List.length_filter_le _ _
theorem colN_none {c : Nat} : ∀ {xs : List Int}, (∀ x ∈ xs, x ≤ (c : Int)) → colN xs c = 0
  | [], _ => rfl
  | x :: xs, h => by
    rw [colN_cons, if_neg (by have := h x List.mem_cons_self; omega), colN_none fun y m => h y (List.mem_cons_of_mem _ m)]
theorem colN_zero : ∀ {xs : List Int}, (∀ x ∈ xs, 1 ≤ x) → colN xs 0 = xs.length
  | [], _ => rfl
  | x :: xs, h => by
    rw [colN_cons, if_pos (by have := h x List.mem_cons_self; omega), colN_zero fun y m => h y (List.mem_cons_of_mem _ m), List.length_cons, Nat.add_comm]
theorem colN_gt {c : Nat} : ∀ {xs : List Int} {i : Nat}, Sh xs → (i < colN xs c ↔ ∃ x, xs[i]? = some x ∧ (c : Int) < x)
  | [], i, _ => by simp [colN]
  | x :: xs, i, h => by
    rw [colN_cons]
    by_cases hc : (c : Int) < x
    · rw [if_pos hc]
      cases i with
      | zero => exact ⟨fun _ => ⟨x, rfl, hc⟩, fun _ => by omega⟩
      | succ i =>
        rw [List.getElem?_cons_succ, ← colN_gt h.tail]
        omega
    · rw [if_neg hc, colN_none fun y m => by have := h.le y m; omega]
      constructor
      · intro z
        omega
      · rintro ⟨y, h1, h2⟩
        cases i with
        | zero =>
          cases h1
          exact absurd h2 hc
        | succ i =>
          have := h.le y (List.mem_of_getElem? h1)
          omega
theorem sum_below {x : Int} : ∀ N : Nat, 0 ≤ x → ((List.range N).map fun c : Nat => if (c : Int) < x then (1 : Int) else 0).sum = if x ≤ N then x else N
  | 0, h => by
    simp only [List.range_zero, List.map_nil, List.sum_nil]
    split <;> omega
  | N + 1, h => by
    rw [List.range_succ, List.map_append, List.sum_append, sum_below N h]
    simp only [List.map_cons, List.map_nil, List.sum_cons, List.sum_nil]
    split <;> split <;> split <;> omega
theorem sum_add (g k : Nat → Int) : ∀ l : List Nat, (l.map fun c => g c + k c).sum = (l.map g).sum + (l.map k).sum
  | [] => rfl
  | c :: l => by
    simp only [List.map_cons, List.sum_cons, sum_add g k l]
    omega
theorem sum_col {N : Nat} : ∀ {xs : List Int}, (∀ x ∈ xs, 0 ≤ x ∧ x ≤ N) → ((List.range N).map fun c => (colN xs c : Int)).sum = xs.sum
  | [], _ => by
    have e : ∀ l : List Nat, (l.map fun c => ((colN [] c : Nat) : Int)).sum = 0 := fun l => by
      induction l with
      | nil => rfl
      | cons c l ih => simp only [List.map_cons, List.sum_cons, ih]; rfl
    exact e _
  | x :: xs, h => by
    have hx := h x List.mem_cons_self
    have e : (fun c : Nat => ((colN (x :: xs) c : Nat) : Int)) = fun c : Nat => (if (c : Int) < x then (1 : Int) else 0) + (colN xs c : Int) := by
      funext c
      rw [colN_cons]
      split <;> omega
    rw [e, sum_add, sum_below N hx.1, sum_col fun y m => h y (List.mem_cons_of_mem _ m), List.sum_cons, if_pos hx.2]
theorem conj_sum {xs : List Int} (h : Sh xs) : (conj xs).sum = xs.sum := by
  cases xs with
  | nil => rfl
  | cons x xs =>
    have hx := h.a x List.mem_cons_self
    refine sum_col fun y m => ?_
    show 0 ≤ y ∧ y ≤ ((x.toNat : Nat) : Int)
    have hy := h.a y m
    rcases List.mem_cons.mp m with e | e
    · omega
    · have := h.le y e
      omega
theorem len_below {x : Int} : ∀ N : Nat, 0 ≤ x → ((List.range N).filter fun c : Nat => decide ((c : Int) < x)).length = if x ≤ N then x.toNat else N
  | 0, h => by
    simp only [List.range_zero, List.filter_nil, List.length_nil]
    split <;> omega
  | N + 1, h => by
    rw [List.range_succ, List.filter_append, List.length_append, len_below N h, List.filter_cons, List.filter_nil]
    by_cases e : (N : Int) < x
    · rw [if_pos (decide_eq_true e), List.length_singleton]
      split <;> split <;> omega
    · rw [decide_eq_false e]
      simp only [Bool.false_eq_true, if_false, List.length_nil]
      split <;> split <;> omega
theorem conj_sh {xs : List Int} (h : Sh xs) : Sh (conj xs) := by
  cases xs with
  | nil => exact ⟨Nat.zero_le _, fun y m => absurd m List.not_mem_nil, List.Pairwise.nil⟩
  | cons x xs =>
    have hx := h.a x List.mem_cons_self
    refine ⟨?_, fun y m => ?_, ?_⟩
    · show ((List.range x.toNat).map _).length ≤ 20
      rw [List.length_map, List.length_range]
      omega
    · obtain ⟨c, hc, rfl⟩ := List.mem_map.mp m
      have hc' : c < x.toNat := List.mem_range.mp hc
      have h1 := colN_le (x :: xs) c
      have h2 := h.n
      have h3 : 0 < colN (x :: xs) c := (colN_gt (c := c) (i := 0) h).mpr ⟨x, rfl, by omega⟩
      omega
    · show ((List.range x.toNat).map fun c => (colN (x :: xs) c : Int)).Pairwise _
      rw [List.pairwise_map]
      refine List.Pairwise.imp (fun {a b} hab => ?_) (List.pairwise_lt_range (n := x.toNat))
      have := colN_mono (Nat.le_of_lt hab) (x :: xs)
      omega
theorem conj_conj {xs : List Int} (h : Sh xs) : conj (conj xs) = xs := by
  cases xs with
  | nil => rfl
  | cons x xs =>
    have hx := h.a x List.mem_cons_self
    have hd : (conj (x :: xs)).headD 0 = ((x :: xs).length : Int) := by
      obtain ⟨k, hk⟩ : ∃ k, x.toNat = k + 1 := ⟨x.toNat - 1, by omega⟩
      show ((List.range x.toNat).map fun c => (colN (x :: xs) c : Int)).headD 0 = _
      rw [hk, List.range_succ_eq_map, List.map_cons]
      show ((colN (x :: xs) 0 : Nat) : Int) = _
      rw [colN_zero fun y m => (h.a y m).1]
    have e1 : conj (conj (x :: xs)) = (List.range (x :: xs).length).map fun i => (colN (conj (x :: xs)) i : Int) := by
      show (List.range ((conj (x :: xs)).headD 0).toNat).map _ = _
      rw [hd, Int.toNat_natCast]
    rw [e1]
    refine List.ext_getElem? fun i => ?_
    rw [List.getElem?_map]
    by_cases hi : i < (x :: xs).length
    · rw [List.getElem?_range hi, List.getElem?_eq_getElem hi]
      show some ((colN (conj (x :: xs)) i : Nat) : Int) = _
      have hy := h.a (x :: xs)[i] (List.getElem_mem hi)
      have hle : (x :: xs)[i] ≤ x := by
        rcases List.mem_cons.mp (List.getElem_mem hi) with e | e
        · omega
        · exact h.le _ e
      have e2 : colN (conj (x :: xs)) i = ((List.range x.toNat).filter fun c : Nat => decide ((c : Int) < (x :: xs)[i])).length := by
        show (((List.range x.toNat).map fun c => (colN (x :: xs) c : Int)).filter fun z => decide ((i : Int) < z)).length = _
        rw [List.filter_map, List.length_map]
        congr 1
        refine List.filter_congr fun c _ => ?_
        show decide ((i : Int) < ((colN (x :: xs) c : Nat) : Int)) = decide ((c : Int) < (x :: xs)[i])
        rw [decide_eq_decide]
        have k := colN_gt (c := c) (i := i) h
        constructor
        · intro z
          obtain ⟨y, h1, h2⟩ := k.mp (by omega)
          rw [List.getElem?_eq_getElem hi] at h1
          cases h1
          exact h2
        · intro z
          have := k.mpr ⟨_, List.getElem?_eq_getElem hi, z⟩
          omega
      rw [e2, len_below _ (by omega), if_pos (by omega)]
      congr 1
      omega
    · rw [List.getElem?_eq_none (by rw [List.length_range]; omega), List.getElem?_eq_none (by omega)]
      rfl
/-- the cells of rows k, k + 1, .. -/
def cellsFrom : Nat → List Int → List (Int × Int)
  | _, [] => []
  | k, x :: xs => ((List.range x.toNat).map fun c : Nat => ((k : Int), (c : Int))) ++ cellsFrom (k + 1) xs
def rowsL (cs : List (Int × Int)) : List Int := ((List.range 20).map fun r : Nat => ((cs.filter fun q => decide (q.1 = (r : Int))).length : Int)).filter fun z => decide (0 < z)
theorem one_col (k : Int) (r : Nat) : ∀ N : Nat, (((List.range N).map fun c : Nat => ((c : Int), k)).filter fun q => decide (q.1 = (r : Int))).length = if r < N then 1 else 0
  | 0 => rfl
  | N + 1 => by
    rw [List.range_succ, List.map_append, List.filter_append, List.length_append, one_col k r N]
    simp only [List.map_cons, List.map_nil, List.filter_cons, List.filter_nil]
    by_cases e : r = N
    · subst e
      simp
    · have e1 : ¬ ((N : Int) = (r : Int)) := by omega
      rw [decide_eq_false e1]
      simp only [Bool.false_eq_true, if_false, List.length_nil]
      split <;> split <;> omega
theorem col_cells (r : Nat) : ∀ (xs : List Int) (k : Nat), (((cellsFrom k xs).map fun q => (q.2, q.1)).filter fun q => decide (q.1 = (r : Int))).length = colN xs r
  | [], _ => rfl
  | x :: xs, k => by
    show (((((List.range x.toNat).map fun c : Nat => ((k : Int), (c : Int))) ++ cellsFrom (k + 1) xs).map fun q => (q.2, q.1)).filter fun q => decide (q.1 = (r : Int))).length = _
    rw [List.map_append, List.filter_append, List.length_append, col_cells r xs (k + 1), colN_cons, List.map_map]
    have := one_col (k : Int) r x.toNat
    show (((List.range x.toNat).map fun c : Nat => ((c : Int), (k : Int))).filter fun q => decide (q.1 = (r : Int))).length + _ = _
    rw [this]
    split <;> split <;> omega
theorem range_pos {g : Nat → Int} {h : Nat} : ∀ N : Nat, (∀ c, 0 < g c ↔ c < h) → ((List.range N).map g).filter (fun z => decide (0 < z)) = (List.range (min N h)).map g
  | 0, _ => by rw [Nat.zero_min]; rfl
  | N + 1, hg => by
    rw [List.range_succ, List.map_append, List.filter_append, range_pos N hg]
    simp only [List.map_cons, List.map_nil, List.filter_cons, List.filter_nil]
    by_cases e : N < h
    · rw [if_pos (decide_eq_true ((hg N).mpr e)), show min N h = N by omega, show min (N + 1) h = N + 1 by omega, List.range_succ, List.map_append]
      rfl
    · rw [if_neg (by rw [decide_eq_true_eq]; exact fun z => e ((hg N).mp z)), show min N h = min (N + 1) h by omega, List.append_nil]
theorem rows_turned {xs : List Int} (h : Sh xs) : rowsL ((cellsFrom 0 xs).map fun q => (q.2, q.1)) = conj xs := by
  unfold rowsL
  have e : (fun r : Nat => ((((cellsFrom 0 xs).map fun q => (q.2, q.1)).filter fun q => decide (q.1 = (r : Int))).length : Int)) = fun r => ((colN xs r : Nat) : Int) := by
    funext r
    rw [col_cells]
  rw [e, range_pos (h := (xs.headD 0).toNat)]
  · cases xs with
    | nil => rfl
    | cons x xs =>
      have hx := h.a x List.mem_cons_self
      show (List.range (min 20 x.toNat)).map _ = (List.range x.toNat).map _
      rw [show min 20 x.toNat = x.toNat by omega]
  · intro c
    cases xs with
    | nil => simp [colN]
    | cons x xs =>
      have k := colN_gt (c := c) (i := 0) h
      show (0 : Int) < ((colN (x :: xs) c : Nat) : Int) ↔ c < x.toNat
      constructor
      · intro z
        obtain ⟨y, h1, h2⟩ := k.mp (by omega)
        cases h1
        omega
      · intro z
        have := k.mpr ⟨x, rfl, by omega⟩
        omega
theorem conj_len {x : Int} {xs : List Int} : (conj (x :: xs)).length = x.toNat := by
  show ((List.range x.toNat).map _).length = _
  rw [List.length_map, List.length_range]
theorem conj_first {x : Int} {xs : List Int} (h : Sh (x :: xs)) : (conj (x :: xs))[0]? = some ((x :: xs).length : Int) := by
  have hx := h.a x List.mem_cons_self
  show ((List.range x.toNat).map _)[0]? = _
  rw [List.getElem?_map, List.getElem?_range (by omega)]
  show some ((colN (x :: xs) 0 : Nat) : Int) = _
  rw [colN_zero fun y m => (h.a y m).1]
structure Pen (H : Hp) (p l : Addr) (ns : List Int) : Prop where
  ne : p ≠ l
  lst : H l = some (.lst (ns.map V.int))
  pen : ∃ a b, H p = some (.lst [.ref l, .int a, .int b])
section
variable {P : Program} {w : World} {K : PySem.W.Frag} {mg : Str → Option Value} {base : Heap} {f : Nat → Addr} {fd : Nat → FuncData}
/-! ### _law_pen -/
def sp_law_pen (K : PySem.W.Frag) : Sp := fun vs H Q _ => ∃ (a : Addr) (ns : List Int), vs = [.ref a] ∧ SqL K H a (ns.map V.int) ∧
  ∀ H' p l ms, Same H H' → Pen H' p l ms → Q (.ref p) H'
theorem ok_law_pen (T : Txt K mg f fd) : FnOk P w K mg base CX0 1 (f 30) (fd 30) ["_law_script"] (sp_law_pen K) := by
  refine T.F30.ok sc_law_pen (fun vs H Q E h => ?_) (fun cdv A outer s H vs Q E hr h => ?_)
  · obtain ⟨a, ns, rfl, _⟩ := h
    rfl
  · obtain ⟨a, ns, rfl, hA, q⟩ := h
    refine ⟨_, (pss_one (ps_ret (pe_lst (pa_cons (pe_callTy (r := rLstO K) lst_of (by rfl) T.m_list bt_list (pa_cons (pe_slice (r := rSlL K) sl_list (pv 0) po_none (po_some pe_int)) pa_nil)) (pa_cons pe_int (pa_cons pe_int pa_nil)))))), ?_⟩
    refine ⟨.ref a, rfl, 63, rfl, a, _, rfl, hA, fun c nc => ?_⟩
    refine ⟨c, _, rfl, .inl (SqL.of upd_same), fun l nl => ⟨small_line (by show 3 ≤ 100000; omega), fun p np => ?_⟩⟩
    obtain ⟨ms, hm⟩ : ∃ ms : List Int, cutV (ns.map V.int) none (some 63) = ms.map V.int := by
      unfold cutV
      rw [← List.map_drop, ← List.map_take]
      exact ⟨_, rfl⟩
    rw [hm] at nl np ⊢
    have hpl : l ≠ p := fun z => by
      rw [z, upd_same] at np
      cases np
    refine q _ p l ms (((same_new nc).trans (same_new nl)).trans (same_new np)) ⟨fun z => hpl z.symm, ?_, 0, 0, upd_same⟩
    rw [upd_ne hpl, upd_same]
/-! ### _law_take -/
def sp_law_take : Sp := fun vs H Q _ => ∃ (p l : Addr) (ns : List Int) (m : Int), vs = [.ref p, .int m] ∧ Pen H p l ns ∧ 1 ≤ m ∧ m ≤ 1000 ∧
  ∀ H' d, Kp p H H' → Pen H' p l ns → 0 ≤ d → d < m → Q (.int d) H'
theorem pen_put {H : Hp} {p l : Addr} {ns : List Int} {a b : Int} (h : Pen H p l ns) : Pen (upd H p (.lst [.ref l, .int a, .int b])) p l ns :=
  ⟨h.ne, by rw [upd_ne h.ne.symm]; exact h.lst, a, b, upd_same⟩
theorem ok_law_take (T : Txt K mg f fd) : FnOk P w K mg base CX0 1 (f 31) (fd 31) ["_law_pen_here", "_law_many"] sp_law_take := by
  refine T.F31.ok sc_law_take (fun vs H Q E h => ?_) (fun cdv A outer s H vs Q E hr h => ?_)
  · obtain ⟨p, l, ns, m, rfl, _⟩ := h
    rfl
  · obtain ⟨p, l, ns, m, rfl, hP, hm, hm2, q⟩ := h
    have hcd : ∀ i : Int, CDiv i m := fun i => ⟨by omega, by omega⟩
    have fin : ∀ {H' : Hp} (i : Int), Kp p H H' → Pen H' p l ns → Q (.int (i % m)) H' := fun i k1 k2 => q _ _ k1 k2 (Int.emod_nonneg _ (by omega)) (Int.emod_lt_of_pos _ (by omega))
    obtain ⟨hne, hl, a, b, hp⟩ := hP
    have hS : SqL K H p [.ref l, .int a, .int b] := SqL.of hp
    refine ⟨_, (pss_cons (ps_if (pt_cmpR op_gt (pe_ix (r := rIxL K) ix_list (pv 0) pe_int (fun _ _ => rfl)) pe_int (nomark _)) (pss_cons (ps_set (i := 2) sc_law_take.nd rfl (Or.inl rfl) (pe_op op_mod (pe_ix (r := rIxL K) ix_list (pv 0) pe_int (fun _ _ => rfl)) (pv 1)))
      (pss_cons (ps_asg (pe_op op_fdiv (pe_ix (r := rIxL K) ix_list (pv 0) pe_int (fun _ _ => rfl)) (pv 1)) (pg_sub (pv 0) pe_int set_list))
      (pss_one (ps_ret (pv 2))))) pss_nil)
      (pss_cons (ps_set (i := 3) sc_law_take.nd rfl (Or.inl rfl) (pe_ix (r := rIxL K) ix_list (pv 0) pe_int (fun _ _ => rfl)))
      (Evl.pss_cut (ps_asg (pe_op op_add (pv 3) pe_int) (pg_sub (pv 0) pe_int set_list))
      (pss_cons (ps_set (i := 4) sc_law_take.nd rfl (Or.inl rfl) (pe_op op_add (pe_op op_mul pe_int (pv 3)) pe_int))
      (Evl.pss_cut (ps_if (pt_cmpR (op_neD hr.units) (pe_ix (r := rIxL K) ix_list (pv 0) pe_int (fun _ _ => rfl)) (pe_lst pa_nil) (nomark _)) (pss_one (ps_set (i := 4) sc_law_take.nd rfl (Or.inl rfl) (pe_ix (r := rIxL K) ix_list (pe_ix (r := rIxL K) ix_list (pv 0) pe_int (fun _ _ => rfl)) (pe_op op_mod (pv 3) (pe_callB (r := rLenS K) len_seq (by rfl) T.m_len bt_len (pa_cons (pe_ix (r := rIxL K) ix_list (pv 0) pe_int (fun _ _ => rfl)) pa_nil))) (fun _ _ => rfl)))) pss_nil)
      (Evl.pss_cut (ps_if (PW.pt (pw_and (pt_cmpR op_lt (pv 3) (pe_callB (r := rLenS K) len_seq (by rfl) T.m_len bt_len (pa_cons (pe_ix (r := rIxL K) ix_list (pv 0) pe_int (fun _ _ => rfl)) pa_nil)) (nomark _)) (pw_and1 (pt_cmpR op_ge (pe_callB call_abs (by rfl) T.m_abs bt_abs (pa_cons (pv 4) pa_nil)) (pe_op op_pow pe_int pe_int) (nomark _))))) (pss_cons (ps_asg (pe_op op_fdiv (pe_callB call_abs (by rfl) T.m_abs bt_abs (pa_cons (pv 4) pa_nil)) (pv 1)) (pg_sub (pv 0) pe_int set_list))
      (pss_one (ps_ret (pe_op op_mod (pe_callB call_abs (by rfl) T.m_abs bt_abs (pa_cons (pv 4) pa_nil)) (pv 1))))) pss_nil)
      (Evl.pss_cut (ps_set (i := 5) sc_law_take.nd rfl (Or.inl rfl) (pe_op op_mod (pe_op op_mul (pe_op op_add (pe_op op_add (pe_op op_mod (pv 4) pe_int) (pe_op op_mul pe_int (pv 3))) pe_int) pe_int) pe_int))
      (Evl.pss_cut (ps_set (i := 5) sc_law_take.nd rfl (Or.inl rfl) (pe_op op_mod (pe_op op_add (pe_op op_add (pe_op op_mul (pv 5) (pv 5)) (pe_op op_mul pe_int (pv 5))) (pv 3)) pe_int))
      (pss_one (ps_ret (pe_op op_mod (pe_op op_fdiv (pv 5) pe_int) (pv 1)))))))))))), ?_⟩
    refine ⟨.ref p, rfl, p, _, 2, _, rfl, rfl, hS, rfl, _, _, rfl, rfl, _, rfl, ite2 (fun e => ?_) (fun e => ?_)⟩
    · refine ⟨.ref p, rfl, p, _, 2, _, rfl, rfl, hS, rfl, _, rfl, b, m, rfl, rfl, (by show (0 : Int) < m; omega), ?_⟩
      refine ⟨.ref p, rfl, p, _, 2, _, rfl, rfl, hS, rfl, _, rfl, b, m, rfl, rfl, hcd _, ?_⟩
      refine ⟨.ref p, rfl, p, _, 2, 2, rfl, rfl, hp, rfl, _, rfl, fin b kp_upd ?_⟩
      exact pen_put ⟨hne, hl, a, b, hp⟩
    · refine ⟨.ref p, rfl, p, _, 1, _, rfl, rfl, hS, rfl, ?_⟩
      refine ⟨fun σ H1 => σ = [some (.ref p), some (.int m), none, some (.int a), none, none] ∧ Kp p H H1 ∧ Pen H1 p l ns, ?_, ?_⟩
      · exact ⟨_, rfl, a, 1, rfl, rfl, .ref p, rfl, p, _, 1, 1, rfl, rfl, hp, rfl, rfl, kp_upd, pen_put ⟨hne, hl, a, b, hp⟩⟩
      rintro _ H1 ⟨rfl, k1, hP1⟩
      obtain ⟨_, hl1, a1, b1, hp1⟩ := hP1
      have hS1 : SqL K H1 p [.ref l, .int a1, .int b1] := SqL.of hp1
      -- cell = 5003 * at + 17
      refine ⟨_, rfl, _, _, rfl, rfl, .inl ⟨by decide, by decide⟩, _, _, rfl, rfl, ?_⟩
      -- if pen[0] != []
      refine ⟨fun σ H2 => ∃ c, σ = [some (.ref p), some (.int m), none, some (.int a), some (.int c), none] ∧ Kp p H H2 ∧ Pen H2 p l ns, ?_, ?_⟩
      · refine ⟨.ref p, rfl, p, _, 0, _, rfl, rfl, hS1, rfl, small_line (by show 0 ≤ 100000; omega), fun z nz => ?_⟩
        have zl : Dp K (upd H1 z (.lst [])) (.ref l) (.list (ns.map PyData.int)) := dp_lst (SqL.of (same_new nz _ _ hl1))
        have z0 : Dp K (upd H1 z (.lst [])) (.ref z) (.list (([] : List Int).map PyData.int)) := dp_lst (SqL.of upd_same)
        have k2 : Kp p H (upd H1 z (.lst [])) := k1.trans (kp_new nz)
        have hp2 : (upd H1 z (.lst [])) p = some (.lst [.ref l, .int a1, .int b1]) := same_new nz _ _ hp1
        have hl2 : (upd H1 z (.lst [])) l = some (.lst (ns.map V.int)) := same_new nz _ _ hl1
        refine ⟨_, _, zl, z0, shaped_lst ns, shaped_lst [], _, rfl, ite2 (fun e => ?_) (fun e => ?_)⟩
        · have n0 : 0 < ns.length := by
            cases ns with
            | nil => exact absurd e (by simp [PyData.eqv, PyData.eqvAll])
            | cons _ _ => exact Nat.succ_pos _
          have b0 : 0 ≤ a % (ns.length : Int) := Int.emod_nonneg _ (by omega)
          have b1' : a % (ns.length : Int) < ns.length := Int.emod_lt_of_pos _ (by omega)
          have hx : (a % (ns.length : Int)).toNat < ns.length := by omega
          refine ⟨.ref p, rfl, p, _, 0, _, rfl, rfl, SqL.of hp2, rfl, _, rfl, .ref p, rfl, p, _, 0, _, rfl, rfl, SqL.of hp2, rfl, l, _, rfl, .inl (SqL.of hl2), _, _, rfl, rfl, ?_, ?_⟩
          · show (0 : Int) < _
            rw [List.length_map]
            omega
          · refine ⟨l, ns.map V.int, _, .int ns[(a % (ns.length : Int)).toNat], rfl, rfl, SqL.of hl2, ?_, _, rfl, k2, hne, hl2, _, _, hp2⟩
            rw [List.length_map]
            exact at_get b0 (by rw [List.getElem?_map, List.getElem?_eq_getElem hx]; rfl)
        · exact ⟨_, rfl, k2, hne, hl2, _, _, hp2⟩
      rintro _ H2 ⟨c, rfl, k2, hP2⟩
      obtain ⟨_, hl2, a2, b2, hp2⟩ := hP2
      have hS2 : SqL K H2 p [.ref l, .int a2, .int b2] := SqL.of hp2
      have tl : ∀ k, k = true → Q (.int ((if c < 0 then -c else c) % m)) (upd H2 p (.lst [.ref l, .int a2, .int ((if c < 0 then -c else c) / m)])) := fun _ _ => fin _ (k2.trans kp_upd) (pen_put ⟨hne, hl2, a2, b2, hp2⟩)
      refine ⟨fun σ H3 => σ = [some (.ref p), some (.int m), none, some (.int a), some (.int c), none] ∧ H2 = H3, ?_, ?_⟩
      · refine ⟨_, rfl, .ref p, rfl, p, _, 0, _, rfl, rfl, hS2, rfl, l, _, rfl, .inl (SqL.of hl2), _, _, rfl, rfl, _, rfl, ite2 (fun e => ?_) (fun e => iteF ⟨rfl, rfl⟩)⟩
        refine ⟨_, rfl, _, rfl, _, _, rfl, rfl, ⟨by decide, by decide, by decide⟩, _, _, rfl, rfl, _, rfl, ite2 (fun e => ?_) (fun e => ⟨rfl, rfl⟩)⟩
        refine ⟨_, rfl, _, rfl, _, rfl, _, _, rfl, rfl, hcd _, ?_⟩
        refine ⟨.ref p, rfl, p, _, 2, 2, rfl, rfl, hp2, rfl, ?_⟩
        exact ⟨_, rfl, _, rfl, _, rfl, _, _, rfl, rfl, (by show (0 : Int) < m; omega), tl true rfl⟩
      rintro _ _ ⟨rfl, rfl⟩
      refine ⟨fun σ H3 => (∃ n, 0 ≤ n ∧ n < 2147483647 ∧ σ = [some (.ref p), some (.int m), none, some (.int a), some (.int c), some (.int n)]) ∧ H2 = H3, ?_, ?_⟩
      · refine ⟨_, rfl, _, _, rfl, rfl, (show (0 : Int) < 2147483629 by decide), _, rfl, _, _, rfl, rfl, .inl ⟨by decide, by decide⟩, _, _, rfl, rfl, _, _, rfl, rfl, _, _, rfl, rfl, .inr ⟨by decide, by decide⟩, _, _, rfl, rfl, (show (0 : Int) < 2147483647 by decide), ⟨_, ?_, ?_, rfl⟩, rfl⟩
        · exact Int.emod_nonneg _ (by decide)
        · exact Int.emod_lt_of_pos _ (by decide)
      rintro _ _ ⟨⟨n, n1, n2, rfl⟩, rfl⟩
      refine ⟨fun σ H3 => (∃ n, 0 ≤ n ∧ σ = [some (.ref p), some (.int m), none, some (.int a), some (.int c), some (.int n)]) ∧ H2 = H3, ?_, ?_⟩
      · refine ⟨_, rfl, _, rfl, n, n, rfl, rfl, .inl ⟨by omega, by omega⟩, _, rfl, _, n, rfl, rfl, .inl ⟨by decide, by decide⟩, _, _, rfl, rfl, _, rfl, _, _, rfl, rfl, _, _, rfl, rfl, (show (0 : Int) < 2147483587 by decide), ⟨_, ?_, rfl⟩, rfl⟩
        exact Int.emod_nonneg _ (by decide)
      rintro _ _ ⟨⟨n, n1, rfl⟩, rfl⟩
      exact ⟨_, rfl, _, _, rfl, rfl, ⟨by decide, by decide⟩, _, rfl, _, _, rfl, rfl, (by show (0 : Int) < m; omega), fin _ k2 ⟨hne, hl2, a2, b2, hp2⟩⟩
theorem Pen.same {H H' : Hp} {p l : Addr} {ns : List Int} (h : Pen H p l ns) (s : Same H H') : Pen H' p l ns :=
  ⟨h.ne, s _ _ h.lst, let ⟨u, v, e⟩ := h.pen; ⟨u, v, s _ _ e⟩⟩
theorem Pen.apart {H : Hp} {p l a : Addr} {ns : List Int} {xs : List V} (h : Pen H p l ns) (ha : H a = some (.tup xs)) : a ≠ p := by
  obtain ⟨u, v, e⟩ := h.pen
  exact ne_of ha e (by intro z; cases z)
/-! ### _law_share -/
def sp_law_share : Sp := fun vs H Q _ => ∃ (p l : Addr) (ns : List Int) (m : Int), vs = [.ref p, .int m] ∧ Pen H p l ns ∧ 1 ≤ m ∧ m ≤ 20 ∧
  ∀ H' a xs, Kp p H H' → Pen H' p l ns → H' a = some (.tup (xs.map V.int)) → Sh xs → (xs.length : Int) ≤ m → (∀ x ∈ xs, x ≤ m) → Q (.ref a) H'
theorem ok_law_share (T : Txt K mg f fd) : FnOk P w K mg base CX0 2 (f 32) (fd 32) ["_law_pen_here", "_law_most"] sp_law_share := by
  refine T.F32.ok sc_law_share (fun vs H Q E h => ?_) (fun cdv A outer s H vs Q E hr h => ?_)
  · obtain ⟨p, l, ns, m, rfl, _⟩ := h
    rfl
  · obtain ⟨p, l, ns, m, rfl, hP, hm, hm2, q⟩ := h
    refine ⟨_, (pss_cons (ps_set (i := 2) sc_law_share.nd rfl (Or.inl rfl) (pe_call (ok_law_take T) (hr.mono (by decide)) (by rfl) T.g31 T.F31.kp T.b31 .nil pass0 (pa_cons (pv 0) (pa_cons (pe_op op_add (pv 1) pe_int) pa_nil))))
      (pss_cons (ps_set (i := 3) sc_law_share.nd rfl (Or.inl rfl) (pe_call (ok_law_take T) (hr.mono (by decide)) (by rfl) T.g31 T.F31.kp T.b31 .nil pass0 (pa_cons (pv 0) (pa_cons pe_int pa_nil))))
      (pss_cons (ps_set (i := 4) sc_law_share.nd rfl (Or.inl rfl) (pe_op op_add pe_int (pe_call (ok_law_take T) (hr.mono (by decide)) (by rfl) T.g31 T.F31.kp T.b31 .nil pass0 (pa_cons (pv 0) (pa_cons (pv 1) pa_nil)))))
      (pss_cons (ps_set (i := 5) sc_law_share.nd rfl (Or.inl rfl) (pe_lst pa_nil))
      (pss_cons (ps_for PassesOwn.never rfl (pi_range1 (by rfl) T.m_range (pa_cons (pv 2) pa_nil)) (pg_name (i := 6) sc_law_share.nd rfl (Or.inl rfl)) (pss_cons (ps_expr (pe_bm PySem.F.plainAttrs_list PySem.F.slot_list_append PySem.F.type_list_append mt_append (pv 5) (pa_cons (pv 4) pa_nil)))
      (pss_cons (ps_set (i := 7) sc_law_share.nd rfl (Or.inl rfl) (pe_call (ok_law_take T) (hr.mono (by decide)) (by rfl) T.g31 T.F31.kp T.b31 .nil pass0 (pa_cons (pv 0) (pa_cons pe_int pa_nil))))
      (pss_one (ps_set (i := 4) sc_law_share.nd rfl (Or.inl rfl) (pe_ix (r := rIxL K) ix_list (pe_lst (pa_cons (pe_callB (call_max2 rfl) (by rfl) T.m_max bt_max (pa_cons pe_int (pa_cons (pe_op op_sub (pv 4) (pv 7)) pa_nil))) (pa_cons (pv 4) (pa_cons (pe_op op_add pe_int (pe_call (ok_law_take T) (hr.mono (by decide)) (by rfl) T.g31 T.F31.kp T.b31 .nil pass0 (pa_cons (pv 0) (pa_cons (pv 4) pa_nil)))) (pa_cons (pe_callB (call_max2 rfl) (by rfl) T.m_max bt_max (pa_cons pe_int (pa_cons (pe_op op_sub (pv 4) pe_int) pa_nil))) pa_nil))))) (pv 3) (fun _ _ => rfl)))))))
      (pss_one (ps_ret (pe_callTy (r := rTupO K) tup_of (by rfl) T.m_tuple bt_tuple (pa_cons (pv 5) pa_nil))))))))), ?_⟩
    refine ⟨.ref p, rfl, _, rfl, _, _, rfl, rfl, p, l, ns, _, rfl, hP, by omega, by omega, fun H1 many k1 P1 a1 a2 => ?_⟩
    refine ⟨.ref p, rfl, p, l, ns, _, rfl, P1, by decide, by decide, fun H2 way k2 P2 a3 a4 => ?_⟩
    refine ⟨.ref p, rfl, _, rfl, p, l, ns, _, rfl, P2, by omega, by omega, fun H3 d k3 P3 a5 a6 => ?_⟩
    refine ⟨_, _, rfl, rfl, Nat.zero_le _, fun R nR => ?_⟩
    have k03 : Kp p H H3 := (k1.trans k2).trans k3
    refine ⟨.int many, rfl, many, rfl, by omega, by omega, ?_⟩
    have nR0 : ∀ b o, H b = some o → b ≠ p → b ≠ R := fun b o e n => ne_of_none (k03 b o n e) nR
    have hRp : R ≠ p := fun z => by
      obtain ⟨_, _, u, v, e⟩ := P3
      rw [← z, nR] at e
      cases e
    have hRl : R ≠ l := fun z => by
      have e := P3.lst
      rw [← z, nR] at e
      cases e
    refine for_range (fun i σ H4 => ∃ (xs : List Int) (long : Int) (o1 o2 : Option V), σ = [some (.ref p), some (.int m), some (.int many), some (.int way), some (.int long), some (.ref R), o1, o2] ∧ xs.length = i ∧ (∀ x ∈ xs, 1 ≤ x ∧ x ≤ m ∧ long ≤ x) ∧ xs.Pairwise (fun x y => y ≤ x) ∧ 1 ≤ long ∧ long ≤ m ∧
      Kp p H H4 ∧ Pen H4 p l ns ∧ H4 R = some (.lst (xs.map V.int))) ?_ ?_ ?_
    · refine ⟨[], 1 + d, none, none, rfl, rfl, (fun x z => absurd z List.not_mem_nil), List.Pairwise.nil, by omega, by omega, k03.trans (kp_new nR), ⟨P3.ne, same_new nR _ _ P3.lst, ?_⟩, upd_same⟩
      obtain ⟨u, v, e⟩ := P3.pen
      exact ⟨u, v, same_new nR _ _ e⟩
    · rintro i _ H4 hi ⟨xs, long, o1, o2, rfl, hx, hr1, hf, hl1, hl2, k4, P4, hR⟩
      -- rows.append(long)
      refine ⟨.ref R, rfl, .inl ⟨rfl, _, .inl (.inl hR)⟩, _, rfl, R, _, _, rfl, rfl, hR, small_lt (by rw [List.length_map]; omega), ?_⟩
      have k5 : Kp p H (upd H4 R (.lst (xs.map V.int ++ [.int long]))) := fun b o n e => by
        rw [upd_ne (nR0 b o e n)]
        exact k4 b o n e
      have P5 : Pen (upd H4 R (.lst (xs.map V.int ++ [.int long]))) p l ns := by
        obtain ⟨h1, h2, u, v, e⟩ := P4
        exact ⟨h1, by rw [upd_ne hRl.symm]; exact h2, u, v, by rw [upd_ne hRp.symm]; exact e⟩
      have hR5 : (upd H4 R (.lst (xs.map V.int ++ [.int long]))) R = some (.lst ((xs ++ [long]).map V.int)) := by
        rw [upd_same, List.map_append]
        rfl
      -- less = take(pen, 3)
      refine ⟨.ref p, rfl, p, l, ns, 3, rfl, P5, by decide, by decide, fun H6 less k6 P6 b1 b2 => ?_⟩
      have hR6 := k6 R _ hRp hR5
      -- long = [..][way]
      refine ⟨_, rfl, _, rfl, _, _, rfl, rfl, 1, long - less, rfl, _, rfl, .ref p, rfl, _, rfl, p, l, ns, long, rfl, P6, by omega, by omega, fun H7 d7 k7 P7 b3 b4 => ?_⟩
      have hR7 := k7 R _ hRp hR6
      refine ⟨1, d7, rfl, rfl, _, rfl, _, _, rfl, rfl, 1, long - 1, rfl, small_line (by show 4 ≤ 100000; omega), fun Z nZ => ?_⟩
      obtain ⟨v, hv, hv1, hv2⟩ : ∃ v, atI [V.int (if long - less > 1 then long - less else 1), V.int long, V.int (1 + d7), V.int (if long - 1 > 1 then long - 1 else 1)] way = some (V.int v) ∧ 1 ≤ v ∧ v ≤ long := by
        rcases (show way = 0 ∨ way = 1 ∨ way = 2 ∨ way = 3 by omega) with z | z | z | z <;> subst z
        · exact ⟨_, rfl, by split <;> omega, by split <;> omega⟩
        · exact ⟨_, rfl, by omega, by omega⟩
        · exact ⟨_, rfl, by omega, by omega⟩
        · exact ⟨_, rfl, by split <;> omega, by split <;> omega⟩
      refine ⟨_, rfl, Z, _, way, _, rfl, rfl, SqL.of upd_same, hv, ?_⟩
      refine ⟨xs ++ [long], v, _, _, rfl, by rw [List.length_append, hx]; rfl, ?_, ?_, hv1, by omega, ((k5.trans k6).trans k7).trans (kp_new nZ), ?_, same_new nZ _ _ hR7⟩
      · intro x z
        rcases List.mem_append.mp z with z | z
        · have := hr1 x z
          omega
        · have e : x = long := by simpa using z
          omega
      · rw [List.pairwise_append]
        refine ⟨hf, List.pairwise_singleton _ _, fun x z y z2 => ?_⟩
        have e : y = long := by simpa using z2
        have := hr1 x z
        omega
      · obtain ⟨h1, h2, u, v, e⟩ := P7
        exact ⟨h1, same_new nZ _ _ h2, u, v, same_new nZ _ _ e⟩
    · rintro _ H4 ⟨xs, long, o1, o2, rfl, hx, hr1, hf, hl1, hl2, k4, P4, hR⟩
      refine ⟨.ref R, rfl, R, _, rfl, .inl ⟨SqL.of hR, fun t nt => ?_⟩⟩
      refine q _ t xs (k4.trans (kp_new nt)) ?_ upd_same ⟨by omega, fun x z => by have := hr1 x z; omega, hf⟩ (by omega) fun x z => (hr1 x z).2.1
      obtain ⟨h1, h2, u, v, e⟩ := P4
      exact ⟨h1, same_new nt _ _ h2, u, v, same_new nt _ _ e⟩
/-! ### whole numbers, and what is none -/
/-- no whole number: of another kind, or a truth -/
def NotWh (K : PySem.W.Frag) (H : Hp) (v : V) : Prop := ∃ (t : Value) (b : Bool), TyX K H v t ∧ PySem.W.kitOne K t (.type "int") = some b ∧ (b = true → PySem.W.kitOne K t (.type "bool") = some true)
/-- what is no whole number, as it comes here -/
inductive Odd (H : Hp) : V → Prop
  | non : Odd H .non
  | bl (b : Bool) : Odd H (.bl b)
  | str (s : Str) : Odd H (.str s)
  | lst {a : Addr} {xs : List V} : H a = some (.lst xs) → Odd H (.ref a)
  | tup {a : Addr} {xs : List V} : H a = some (.tup xs) → Odd H (.ref a)
  | dK {a : Addr} {kvs : List (Key × V)} : H a = some (.dK kvs) → Odd H (.ref a)
theorem Odd.same {H H' : Hp} {v : V} (h : Odd H v) (s : Same H H') : Odd H' v := by
  cases h with
  | non => exact .non
  | bl b => exact .bl b
  | str x => exact .str x
  | lst e => exact .lst (s _ _ e)
  | tup e => exact .tup (s _ _ e)
  | dK e => exact .dK (s _ _ e)
def sp_is_whole (K : PySem.W.Frag) : Sp := fun vs H Q _ => ∃ v : V, vs = [v] ∧ ((∃ i : Int, v = .int i ∧ Q (.bl true) H) ∨ (NotWh K H v ∧ Q (.bl false) H))
theorem ok_is_whole (T : Txt K mg f fd) : FnOk P w K mg base CX0 1 (f 19) (fd 19) ["thing"] (sp_is_whole K) := by
  refine T.F19.ok scis_whole (fun vs H Q E h => ?_) (fun cdv A outer s H vs Q E hr h => ?_)
  · obtain ⟨v, rfl, _⟩ := h
    rfl
  · obtain ⟨v, rfl, h⟩ := h
    refine ⟨_, (pss_one (ps_ret (pe_and (pe_callB call_isi (by rfl) T.m_isinstance bt_isinstance (pa_cons (pv 0) (pa_cons (pe_bltn (v := .ty "int") (by rfl) T.m_int bt_int rfl) pa_nil))) (pe_one (pe_not (pe_callB call_isi (by rfl) T.m_isinstance bt_isinstance (pa_cons (pv 0) (pa_cons (pe_bltn (v := .ty "bool") (by rfl) T.m_bool bt_bool rfl) pa_nil)))))))), ?_⟩
    rcases h with ⟨i, rfl, q⟩ | ⟨⟨t, b, ty, k1, k2⟩, q⟩
    · refine ⟨_, rfl, _, .ty "int", .type "int", .type "int", true, rfl, .ty _, .base (.int _), kit_ty (by decide +kernel), _, rfl, ?_⟩
      rw [if_pos rfl]
      exact ⟨_, rfl, _, .ty "bool", .type "int", .type "bool", false, rfl, .ty _, .base (.int _), kit_ty (by decide +kernel), _, rfl, q⟩
    · refine ⟨_, rfl, _, .ty "int", t, .type "int", b, rfl, .ty _, ty, k1, _, rfl, ?_⟩
      cases b with
      | false =>
        rw [if_neg Bool.false_ne_true]
        exact q
      | true =>
        rw [if_pos rfl]
        exact ⟨_, rfl, _, .ty "bool", t, .type "bool", true, rfl, .ty _, ty, k2 rfl, _, rfl, q⟩
theorem nw_non {H : Hp} : NotWh K H .non := ⟨_, false, .base .non, kit_ty (by decide +kernel), nofun⟩
theorem nw_bl {H : Hp} (b : Bool) : NotWh K H (.bl b) := ⟨_, true, .base (.bl b), kit_ty (by decide +kernel), fun _ => kit_ty (by decide +kernel)⟩
theorem nw_str {H : Hp} (s : Str) : NotWh K H (.str s) := ⟨_, false, .base (.str s), kit_ty (by decide +kernel), nofun⟩
theorem nw_lst {H : Hp} {a : Addr} {xs : List V} (h : H a = some (.lst xs)) : NotWh K H (.ref a) := ⟨_, false, .base (.lst h), kit_ty (by decide +kernel), nofun⟩
theorem nw_tup {H : Hp} {a : Addr} {xs : List V} (h : H a = some (.tup xs)) : NotWh K H (.ref a) := ⟨_, false, .base (.tup h), kit_ty (by decide +kernel), nofun⟩
theorem nw_dK {H : Hp} {a : Addr} {kvs : List (Key × V)} (h : H a = some (.dK kvs)) : NotWh K H (.ref a) := ⟨_, false, .base (.dK h), kit_ty (by decide +kernel), nofun⟩
theorem Odd.nw {H : Hp} {v : V} (h : Odd H v) : NotWh K H v := by
  cases h with
  | non => exact nw_non
  | bl b => exact nw_bl b
  | str x => exact nw_str x
  | lst e => exact nw_lst e
  | tup e => exact nw_tup e
  | dK e => exact nw_dK e
/-! ### things of any kind -/
def Sd (H : Hp) (v : V) : Prop := (∃ i : Int, v = .int i) ∨ Odd H v
theorem Sd.same {H H' : Hp} {v : V} (h : Sd H v) (s : Same H H') : Sd H' v := h.imp (fun z => z) fun o => o.same s
inductive NonT (H : Hp) : V → Prop
  | int (i : Int) : NonT H (.int i)
  | non : NonT H .non
  | bl (b : Bool) : NonT H (.bl b)
  | str (s : Str) : NonT H (.str s)
  | lst {a : Addr} {xs : List V} : H a = some (.lst xs) → NonT H (.ref a)
  | dK {a : Addr} {kvs : List (Key × V)} : H a = some (.dK kvs) → NonT H (.ref a)
theorem NonT.ty {H : Hp} {v : V} (h : NonT H v) : ∃ t, TyX K H v t ∧ PySem.W.kitOne K t (.type "tuple") = some false := by
  cases h with
  | int i => exact ⟨_, .base (.int i), kit_ty (by decide +kernel)⟩
  | non => exact ⟨_, .base .non, kit_ty (by decide +kernel)⟩
  | bl b => exact ⟨_, .base (.bl b), kit_ty (by decide +kernel)⟩
  | str x => exact ⟨_, .base (.str x), kit_ty (by decide +kernel)⟩
  | lst e => exact ⟨_, .base (.lst e), kit_ty (by decide +kernel)⟩
  | dK e => exact ⟨_, .base (.dK e), kit_ty (by decide +kernel)⟩
theorem NonT.same {H H' : Hp} {v : V} (h : NonT H v) (s : Same H H') : NonT H' v := by
  cases h with
  | int i => exact .int i
  | non => exact .non
  | bl b => exact .bl b
  | str x => exact .str x
  | lst e => exact .lst (s _ _ e)
  | dK e => exact .dK (s _ _ e)
def sp_is_whole_from : Sp := fun vs H Q _ => ∃ (l m : Int) (v : V), vs = [.int l, .int m, v] ∧ ((∃ i : Int, v = .int i ∧ Q (.bl (decide (l ≤ i) && decide (i ≤ m))) H) ∨ (Odd H v ∧ Q (.bl false) H))
theorem ok_is_whole_from (T : Txt K mg f fd) : FnOk P w K mg base CX0 2 (f 20) (fd 20) ["least", "most", "thing"] sp_is_whole_from := by
  refine T.F20.ok scis_whole_from (fun vs H Q E h => ?_) (fun cdv A outer s H vs Q E hr h => ?_)
  · obtain ⟨l, m, v, rfl, _⟩ := h
    rfl
  · obtain ⟨l, m, v, rfl, h⟩ := h
    refine ⟨_, (pss_one (ps_ret (pe_and (pe_call (ok_is_whole T) (hr.mono (by decide)) (by rfl) T.g19 T.F19.kp T.b19 .nil pass0 (pa_cons (pv 2) pa_nil)) (pe_one (pe_chain op_le op_le (pv 0) (pv 2) (pv 1)))))), ?_⟩
    rcases h with ⟨i, rfl, q⟩ | ⟨o, q⟩
    · refine ⟨_, rfl, _, rfl, .inl ⟨i, rfl, _, rfl, ?_⟩⟩
      rw [if_pos rfl]
      refine ⟨_, rfl, _, rfl, _, _, rfl, rfl, _, rfl, ?_⟩
      by_cases c : l ≤ i
      · rw [decide_eq_true c] at q ⊢
        rw [if_pos rfl]
        exact ⟨_, rfl, _, _, rfl, rfl, q⟩
      · rw [decide_eq_false c] at q ⊢
        rw [if_neg Bool.false_ne_true]
        exact q
    · refine ⟨_, rfl, _, rfl, .inr ⟨o.nw, _, rfl, ?_⟩⟩
      rw [if_neg Bool.false_ne_true]
      exact q
def Cell (xs : List Int) (r c : Nat) : Prop := ∃ x, xs[r]? = some x ∧ (c : Int) < x
def sp_rows_beyond : Sp := fun vs H Q _ => ∃ (a : Addr) (xs : List Int) (c : Nat), vs = [.ref a, .int (c : Int)] ∧ H a = some (.tup (xs.map V.int)) ∧ xs.length ≤ 1000 ∧ ∀ H', Same H H' → Q (.int (colN xs c : Int)) H'
theorem ok_rows_beyond (T : Txt K mg f fd) : FnOk P w K mg base CX0 1 (f 23) (fd 23) ["share", "column"] sp_rows_beyond := by
  refine T.F23.ok scrows_beyond (fun vs H Q E h => ?_) (fun cdv A outer s H vs Q E hr h => ?_)
  · obtain ⟨a, xs, c, rfl, _⟩ := h
    rfl
  · obtain ⟨a, xs, c, rfl, ha, hn, q⟩ := h
    refine ⟨_, (pss_one (ps_ret (pe_callB (r := rLenS K) len_seq (by rfl) T.m_len bt_len (pa_cons (pe_lc (own := [("length", 2)]) (g := (gName 2)) rfl scrows_beyond.nd (pi_tup (pv 0)) (blkOk_by (N := Nrows_beyond) (sc := defScope strows_beyond) (by decide +kernel)) (fun _ _ _ _ _ => (pg_name (i := 2) scrows_beyond.nd rfl (Or.inl rfl))) (fun _ _ _ _ _ => pts_one (pt_cmpR op_gt (pv 2) (pv 1) (nomark _))) (fun _ _ _ _ _ => (pv 2))) pa_nil)))), ?_⟩
    refine ⟨.ref a, rfl, a, rfl, ⟨_, SqT.of ha⟩, fun D nD => ?_⟩
    refine lc_it (walk_tup (xs := xs.map V.int)) (Grow H D (fun i => ((xs.take i).filter fun x => decide ((c : Int) < x)).map V.int)) (Grow.start nD rfl) (fun i H2 _ g => SqT.of (g.1 _ _ ha)) ?_ ?_
    · rintro i v _ H2 hi g ⟨rfl, hv⟩
      rw [List.length_map] at hi
      rw [List.getElem?_map, List.getElem?_eq_getElem hi] at hv
      cases hv
      refine ⟨rfl, _, rfl, _, rfl, _, _, rfl, rfl, _, rfl, ite2 (fun e => ?_) (fun e => ?_)⟩
      · refine ⟨_, rfl, _, g.2, ?_, g.put nD (Same.refl _) ?_⟩
        · refine small_lt ?_
          rw [List.length_map]
          have := List.length_filter_le (fun x => decide ((c : Int) < x)) (xs.take i)
          rw [List.length_take] at this
          omega
        · rw [List.take_add_one, List.getElem?_eq_getElem hi, List.filter_append]
          simp only [Option.toList, List.filter_cons, e, if_true, List.filter_nil, List.map_append, List.map_cons, List.map_nil]
      · refine g.skip (Same.refl _) ?_
        rw [List.take_add_one, List.getElem?_eq_getElem hi, List.filter_append]
        simp only [Option.toList, List.filter_cons, e, if_false, List.filter_nil, List.append_nil, Bool.false_eq_true]
    · intro H2 g
      have g2 := g.2
      dsimp only at g2
      rw [List.length_map, List.take_of_length_le (Nat.le_refl _)] at g2
      refine ⟨D, _, rfl, .inl (SqL.of g2), ?_⟩
      rw [List.length_map]
      exact q _ g.1
def sp_turned_share : Sp := fun vs H Q _ => ∃ (a : Addr) (xs : List Int), vs = [.ref a] ∧ H a = some (.tup (xs.map V.int)) ∧ Sh xs ∧ ∀ H' t, Same H H' → H' t = some (.tup ((conj xs).map V.int)) → Q (.ref t) H'
theorem ok_turned_share (T : Txt K mg f fd) : FnOk P w K mg base CX0 2 (f 22) (fd 22) ["share"] sp_turned_share := by
  refine T.F22.ok scturned_share (fun vs H Q E h => ?_) (fun cdv A outer s H vs Q E hr h => ?_)
  · obtain ⟨a, xs, rfl, _⟩ := h
    rfl
  · obtain ⟨a, xs, rfl, ha, hx, q⟩ := h
    have hxn := hx.n
    refine ⟨_, (pss_cons (ps_if (pt_not (pt_truth (pv 0) (by intro _; rfl))) (pss_one (ps_ret (pe_tup pa_nil))) pss_nil)
      (pss_one (ps_ret (pe_callTy (r := rTupO K) tup_of (by rfl) T.m_tuple bt_tuple (pa_cons (pe_lc (own := [("column", 1)]) (g := (gName 1)) (tt := tYes) rfl scturned_share.nd (pi_range1 (by rfl) T.m_range (pa_cons (pe_ix (r := rIxT K) ix_tup (pv 0) pe_int (fun _ _ => rfl)) pa_nil)) (blkOk_by (N := Nturned_share) (sc := defScope stturned_share) (by decide +kernel)) (fun _ _ _ _ _ => (pg_name (i := 1) scturned_share.nd rfl (Or.inl rfl))) (fun _ _ _ _ _ => pts_nil) (fun _ _ _ _ _ => (pe_call (ok_rows_beyond T) (hr.mono (by decide)) (by rfl) T.g23 T.F23.kp T.b23 .nil pass0 (pa_cons (pv 0) (pa_cons (pv 1) pa_nil))))) pa_nil))))), ?_⟩
    refine ⟨.ref a, rfl, _, .inr (.inl ⟨_, SqT.of ha, rfl⟩), ?_⟩
    cases xs with
    | nil => exact ⟨Nat.zero_le _, fun t nt => q _ t (same_new nt) upd_same⟩
    | cons x xs =>
      have hx0 := hx.a x List.mem_cons_self
      refine iteF ?_
      refine ⟨.ref a, rfl, a, _, 0, .int x, rfl, rfl, SqT.of ha, at_get (by decide) rfl, x, rfl, by omega, by omega, fun D nD => ?_⟩
      refine lc_it (walk_range (lo := 0) (n := x.toNat)) (Grow H D (fun i => ((List.range i).map fun c => (colN (x :: xs) c : Int)).map V.int)) (Grow.start nD rfl) (fun _ _ _ _ => trivial) ?_ ?_
      · rintro i v _ H2 hi g ⟨rfl, rfl⟩
        refine ⟨rfl, ?_⟩
        simp only [tYes, reduceIte]
        refine ⟨.ref a, rfl, _, rfl, a, x :: xs, i, by rw [Int.zero_add]; rfl, g.1 _ _ ha, by omega, fun H3 s3 => ?_⟩
        refine ⟨_, s3 _ _ g.2, small_lt (by rw [List.length_map, List.length_map, List.length_range]; omega), g.put nD s3 ?_⟩
        rw [List.range_succ, List.map_append, List.map_append]
        rfl
      · intro H2 g
        exact ⟨D, _, rfl, .inl ⟨SqL.of g.2, fun t nt => q _ t (g.1.trans (same_new nt)) upd_same⟩⟩
/-! ### the mathematics of hooks -/
def hkI (xs : List Int) (r c : Nat) : Int := xs.getD r 0 - (c : Int) + (colN xs c : Int) - (r : Int) - 1
def hookRow (xs : List Int) (r : Nat) : List Int := (List.range (xs.getD r 0).toNat).map fun c => hkI xs r c
def hookRows (xs : List Int) : List (List Int) := (List.range xs.length).map fun r => hookRow xs r
theorem getD_in {xs : List Int} {r : Nat} (h : r < xs.length) : xs.getD r 0 = xs[r] := by
  rw [List.getD_eq_getElem?_getD, List.getElem?_eq_getElem h]
  rfl
theorem conj_get {xs : List Int} {c : Nat} (h : (c : Int) < xs.headD 0) : (conj xs)[c]? = some ((colN xs c : Nat) : Int) := by
  unfold conj
  rw [List.getElem?_map, List.getElem?_range (by omega)]
  rfl
theorem cell_head {xs : List Int} {r c : Nat} (h : Sh xs) (hc : Cell xs r c) : (c : Int) < xs.headD 0 := by
  obtain ⟨x, h1, h2⟩ := hc
  cases xs with
  | nil => simp at h1
  | cons y ys =>
    show (c : Int) < y
    rcases List.mem_cons.mp (List.mem_of_getElem? h1) with e | e
    · omega
    · have := h.le x e
      omega
theorem col_conj {xs : List Int} {r : Nat} (h : Sh xs) (hr : r < xs.length) : ((colN (conj xs) r : Nat) : Int) = xs[r] := by
  have e := congrArg (fun l : List Int => l[r]?) (conj_conj h)
  try dsimp only at e
  rw [List.getElem?_eq_getElem hr] at e
  have hl : (r : Int) < (conj xs).headD 0 := by
    have : r < (conj (conj xs)).length := by rw [conj_conj h]; exact hr
    unfold conj at this
    rw [List.length_map, List.length_range] at this
    show (r : Int) < (conj xs).headD 0
    have t2 : r < ((conj xs).headD 0).toNat := this
    omega
  rw [conj_get hl] at e
  exact Option.some.inj e
theorem hk_turned {xs : List Int} {r c : Nat} (h : Sh xs) (hc : Cell xs r c) : hkI (conj xs) c r = hkI xs r c := by
  have hh := cell_head h hc
  obtain ⟨x, h1, h2⟩ := hc
  have hr := (List.getElem?_eq_some_iff.mp h1).1
  unfold hkI
  rw [col_conj h hr, getD_in hr, List.getD_eq_getElem?_getD, conj_get hh]
  show ((colN xs c : Nat) : Int) - (r : Int) + xs[r] - (c : Int) - 1 = _
  omega
/-- tuples of ints at addresses -/
def PrT (H : Hp) (as : List Addr) (rs : List (List Int)) : Prop := Paired (fun a r => H a = some (.tup (r.map V.int))) as rs
theorem PrT.mono {H H' : Hp} : ∀ {as : List Addr} {rs : List (List Int)}, PrT H as rs → (∀ a xs, H a = some (.tup xs) → H' a = some (.tup xs)) → PrT H' as rs
  | _, _, .nil, _ => .nil
  | _, _, .cons h t, k => .cons (k _ _ h) (PrT.mono t k)
theorem PrT.same {H H' : Hp} {as : List Addr} {rs : List (List Int)} (h : PrT H as rs) (s : Same H H') : PrT H' as rs := h.mono fun _ _ e => s _ _ e
theorem PrT.upd {H : Hp} {as : List Addr} {rs : List (List Int)} {D : Addr} {zs : List V} {o : HO} (h : PrT H as rs) (hD : H D = some (.lst zs)) : PrT (L2.upd H D o) as rs := h.mono fun a xs e => by
  rw [upd_ne (ne_of e hD (by intro z; cases z))]
  exact e
theorem PrT.snoc {H : Hp} {a : Addr} {r : List Int} (h : H a = some (.tup (r.map V.int))) : ∀ {as : List Addr} {rs : List (List Int)}, PrT H as rs → PrT H (as ++ [a]) (rs ++ [r])
  | _, _, .nil => .cons h .nil
  | _, _, .cons k t => .cons k (PrT.snoc h t)
theorem PrT.len {H : Hp} : ∀ {as : List Addr} {rs : List (List Int)}, PrT H as rs → as.length = rs.length
  | _, _, .nil => rfl
  | _, _, .cons _ t => by rw [List.length_cons, List.length_cons, PrT.len t]
theorem PrT.at {H : Hp} : ∀ {as : List Addr} {rs : List (List Int)} {i : Nat} {r : List Int}, PrT H as rs → rs[i]? = some r → ∃ a, as[i]? = some a ∧ H a = some (.tup (r.map V.int))
  | _, _, i, _, .nil, e => by simp at e
  | _, _, 0, _, .cons h _, e => by
    cases e
    exact ⟨_, rfl, h⟩
  | _, _, i + 1, _, .cons _ t, e => by
    rw [List.getElem?_cons_succ] at e
    obtain ⟨c, h1, h2⟩ := PrT.at t e
    exact ⟨c, by rw [List.getElem?_cons_succ]; exact h1, h2⟩
theorem dpAll_prt {K : PySem.W.Frag} {H : Hp} : ∀ {as : List Addr} {rs : List (List Int)}, PrT H as rs → DpAll K H (as.map V.ref) (rs.map fun r => PyData.tuple (r.map PyData.int))
  | _, _, .nil => .nil
  | _, _, .cons h t => .cons (dp_tup (SqT.of h)) (dpAll_prt t)
theorem hookRows_at {xs : List Int} {r : Nat} (h : r < xs.length) : (hookRows xs)[r]? = some (hookRow xs r) := by
  unfold hookRows
  rw [List.getElem?_map, List.getElem?_range h]
  rfl
theorem hookRow_at {xs : List Int} {r c : Nat} (h : (c : Int) < xs.getD r 0) : (hookRow xs r)[c]? = some (hkI xs r c) := by
  unfold hookRow
  rw [List.getElem?_map, List.getElem?_range (by omega)]
  rfl
/-! ### hooks_of_row, hooks_of, is_cell_of, hook_of -/
def sp_hooks_of_row : Sp := fun vs H Q _ => ∃ (t : Addr) (xs : List Int) (r : Nat), vs = [.int (r : Int), .int (xs.getD r 0), .ref t] ∧ H t = some (.tup ((conj xs).map V.int)) ∧ Sh xs ∧ r < xs.length ∧
  ∀ H' a, Same H H' → H' a = some (.tup ((hookRow xs r).map V.int)) → Q (.ref a) H'
theorem ok_hooks_of_row (T : Txt K mg f fd) : FnOk P w K mg base CX0 1 (f 27) (fd 27) ["row", "length", "turned"] sp_hooks_of_row := by
  refine T.F27.ok schooks_of_row (fun vs H Q E h => ?_) (fun cdv A outer s H vs Q E hr h => ?_)
  · obtain ⟨t, xs, r, rfl, _⟩ := h
    rfl
  · obtain ⟨t, xs, r, rfl, ht, hx, hrl, q⟩ := h
    have hxr := hx.a xs[r] (List.getElem_mem hrl)
    have hg := getD_in hrl
    refine ⟨_, (pss_one (ps_ret (pe_callTy (r := rTupO K) tup_of (by rfl) T.m_tuple bt_tuple (pa_cons (pe_lc (own := [("column", 3)]) (g := (gName 3)) (tt := tYes) rfl schooks_of_row.nd (pi_range1 (by rfl) T.m_range (pa_cons (pv 1) pa_nil)) (blkOk_by (N := Nhooks_of_row) (sc := defScope sthooks_of_row) (by decide +kernel)) (fun _ _ _ _ _ => (pg_name (i := 3) schooks_of_row.nd rfl (Or.inl rfl))) (fun _ _ _ _ _ => pts_nil) (fun _ _ _ _ _ => (pe_op op_sub (pe_op op_sub (pe_op op_add (pe_op op_sub (pv 1) (pv 3)) (pe_ix (r := rIxT K) ix_tup (pv 2) (pv 3) (fun _ _ => rfl))) (pv 0)) pe_int))) pa_nil)))), ?_⟩
    refine ⟨_, rfl, _, rfl, by omega, by omega, fun D nD => ?_⟩
    refine lc_it (walk_range (lo := 0) (n := (xs.getD r 0).toNat)) (Grow H D (fun i => ((List.range i).map fun c => hkI xs r c).map V.int)) (Grow.start nD rfl) (fun _ _ _ _ => trivial) ?_ ?_
    · rintro i v _ H2 hi g ⟨rfl, rfl⟩
      refine ⟨rfl, ?_⟩
      simp only [tYes, reduceIte]
      have hci : Cell xs r i := ⟨xs[r], List.getElem?_eq_getElem hrl, by omega⟩
      refine ⟨_, rfl, _, rfl, _, _, rfl, rfl, .ref t, rfl, _, rfl, t, _, _, .int ((colN xs i : Nat) : Int), rfl, rfl, SqT.of (g.1 _ _ ht), at_get (by omega) ?_, _, _, rfl, rfl, _, rfl, _, _, rfl, rfl, _, _, rfl, rfl, _, g.2, ?_, ?_⟩
      · rw [List.getElem?_map, show ((0 : Int) + (i : Int)).toNat = i by omega, conj_get (cell_head hx hci)]
        rfl
      · exact small_lt (by rw [List.length_map, List.length_map, List.length_range]; omega)
      · show Grow H D _ (i + 1) (upd H2 D (.lst (_ ++ [V.int (xs.getD r 0 - (0 + (i : Int)) + ((colN xs i : Nat) : Int) - (r : Int) - 1)])))
        rw [Int.zero_add]
        refine g.put nD (Same.refl _) ?_
        rw [List.range_succ, List.map_append, List.map_append]
        rfl
    · intro H2 g
      exact ⟨D, _, rfl, .inl ⟨SqL.of g.2, fun u nu => q _ u (g.1.trans (same_new nu)) upd_same⟩⟩
def sp_hooks_of : Sp := fun vs H Q _ => ∃ (a : Addr) (xs : List Int), vs = [.ref a] ∧ H a = some (.tup (xs.map V.int)) ∧ Sh xs ∧
  ∀ H' t as, Same H H' → H' t = some (.tup (as.map V.ref)) → PrT H' as (hookRows xs) → Q (.ref t) H'
theorem ok_hooks_of (T : Txt K mg f fd) : FnOk P w K mg base CX0 3 (f 26) (fd 26) ["share"] sp_hooks_of := by
  refine T.F26.ok schooks_of (fun vs H Q E h => ?_) (fun cdv A outer s H vs Q E hr h => ?_)
  · obtain ⟨a, xs, rfl, _⟩ := h
    rfl
  · obtain ⟨a, xs, rfl, ha, hx, q⟩ := h
    have hxn := hx.n
    refine ⟨_, (pss_cons (ps_set (i := 1) schooks_of.nd rfl (Or.inr rfl) (pe_call (ok_turned_share T) (hr.mono (by decide)) (by rfl) T.g22 T.F22.kp T.b22 .nil pass0 (pa_cons (pv 0) pa_nil)))
      (pss_one (ps_ret (pe_callTy (r := rTupO K) tup_of (by rfl) T.m_tuple bt_tuple (pa_cons (pe_lc (own := [("row", 2), ("length", 3)]) (g := (gTup _ 2 (gCons (gName 2) (gCons (gName 3) gNil)))) (tt := tYes) rfl schooks_of.nd (pi_enumT (by rfl) T.m_enumerate (pa_cons (pv 0) pa_nil)) (blkOk_by (N := Nhooks_of) (sc := defScope sthooks_of) (by decide +kernel)) (fun _ _ _ _ _ => (pg_tup rfl (pgs_cons (pg_name (i := 2) schooks_of.nd rfl (Or.inl rfl)) (pgs_cons (pg_name (i := 3) schooks_of.nd rfl (Or.inl rfl)) pgs_nil)))) (fun _ _ _ _ _ => pts_nil) (fun _ _ _ _ _ => (pe_call (ok_hooks_of_row T) (hr.mono (by decide)) (by rfl) T.g27 T.F27.kp T.b27 .nil pass0 (pa_cons (pv 2) (pa_cons (pv 3) (pa_cons (pv 1) pa_nil)))))) pa_nil))))), ?_⟩
    refine ⟨.ref a, rfl, a, xs, rfl, ha, hx, fun H1 t s1 ht => ?_⟩
    refine ⟨.ref a, rfl, a, _, rfl, SqT.of (s1 _ _ ha), fun D nD => ?_⟩
    refine lc_it (walk_enumT (xs := xs.map V.int)) (fun i H2 => Same H1 H2 ∧ ∃ as : List Addr, H2 D = some (.lst (as.map V.ref)) ∧ PrT H2 as ((List.range i).map fun r => hookRow xs r)) ⟨same_new nD, [], upd_same, .nil⟩ (fun i H2 _ g => SqT.of (g.1 _ _ (s1 _ _ ha))) ?_ ?_
    · rintro i v H2 H3 hi ⟨s2, as, hD, hp⟩ ⟨u, x, y, rfl, nu, rfl, hx1, hy1⟩
      rw [List.length_map] at hi
      dsimp only at hx1 hy1
      rw [List.getElem?_map, List.getElem?_eq_getElem hi] at hy1
      cases hx1
      cases hy1
      have hal := hp.len
      rw [List.length_map, List.length_range] at hal
      have s3 := same_new (o := .tup [V.int (i : Nat), V.int xs[i]]) nu
      refine ⟨u, _, rfl, SqT.of upd_same, rfl, _, _, rfl, _, _, rfl, rfl, rfl, ?_⟩
      simp only [tYes, reduceIte]
      refine ⟨_, rfl, _, rfl, .ref t, rfl, t, xs, i, by rw [getD_in hi]; rfl, s3 _ _ (s2 _ _ ht), hx, hi, fun H4 b s4 hb => ?_⟩
      have hD4 := s4 _ _ (s3 _ _ hD)
      refine ⟨_, hD4, small_lt (by rw [List.length_map]; omega), fun c o e => ?_, as ++ [b], by rw [upd_same, List.map_append]; rfl, ?_⟩
      · rw [upd_ne (ne_of_none e nD)]
        exact s4 _ _ (s3 _ _ (s2 _ _ e))
      · have er : (List.range (i + 1)).map (fun r => hookRow xs r) = (List.range i).map (fun r => hookRow xs r) ++ [hookRow xs i] := by
          rw [List.range_succ, List.map_append]
          rfl
        rw [er]
        exact PrT.upd (PrT.snoc hb ((hp.same s3).same s4)) hD4
    · rintro H2 ⟨s2, as, hD, hp⟩
      rw [List.length_map] at hp
      exact ⟨D, _, rfl, .inl ⟨SqL.of hD, fun v nv => q _ v as ((s1.trans s2).trans (same_new nv)) upd_same (hp.same (same_new nv))⟩⟩
/-! ### what is no cell -/
def NoP (xs : List Int) (x y : V) : Prop := ∀ i j : Int, x = .int i → y = .int j → 0 ≤ i → i < (xs.length : Int) → j < 0 ∨ xs.getD i.toNat 0 ≤ j
def NoCl (H : Hp) (xs : List Int) (v : V) : Prop := NonT H v ∨ (∃ a ys, v = .ref a ∧ H a = some (.tup ys) ∧ ys.length ≠ 2) ∨ ∃ a x y, v = .ref a ∧ H a = some (.tup [x, y]) ∧ Sd H x ∧ Sd H y ∧ NoP xs x y
theorem NoCl.same {H H' : Hp} {xs : List Int} {v : V} (h : NoCl H xs v) (s : Same H H') : NoCl H' xs v := by
  rcases h with h | ⟨a, ys, e, h1, h2⟩ | ⟨a, x, y, e, h1, h2, h3, h4⟩
  · exact .inl (h.same s)
  · exact .inr (.inl ⟨a, ys, e, s _ _ h1, h2⟩)
  · exact .inr (.inr ⟨a, x, y, e, s _ _ h1, h2.same s, h3.same s, h4⟩)
def sp_is_cell_of : Sp := fun vs H Q _ => ∃ (a : Addr) (v : V) (xs : List Int), vs = [.ref a, v] ∧ H a = some (.tup (xs.map V.int)) ∧
  ((∃ (b : Addr) (r c : Nat), v = .ref b ∧ H b = some (.tup [.int (r : Int), .int (c : Int)]) ∧ Cell xs r c ∧ Q (.bl true) H) ∨ (NoCl H xs v ∧ Q (.bl false) H))
theorem ok_is_cell_of (T : Txt K mg f fd) : FnOk P w K mg base CX0 3 (f 28) (fd 28) ["share", "thing"] sp_is_cell_of := by
  refine T.F28.ok scis_cell_of (fun vs H Q E h => ?_) (fun cdv A outer s H vs Q E hr h => ?_)
  · obtain ⟨a, v, xs, rfl, _⟩ := h
    rfl
  · obtain ⟨a, v, xs, rfl, ha, h⟩ := h
    refine ⟨_, (pss_cons (ps_if (PW.pt (pw_or (pt_not (pt_val (pe_callB call_isi (by rfl) T.m_isinstance bt_isinstance (pa_cons (pv 1) (pa_cons (pe_bltn (v := .ty "tuple") (by rfl) T.m_tuple bt_tuple rfl) pa_nil))))) (pw_or1 (pt_cmpR op_ne (pe_callB (r := rLenS K) len_seq (by rfl) T.m_len bt_len (pa_cons (pv 1) pa_nil)) pe_int (nomark _))))) (pss_one (ps_ret pe_bl)) pss_nil)
      (pss_cons (ps_asg (pv 1) (pg_tup rfl (pgs_cons (pg_name (i := 2) scis_cell_of.nd rfl (Or.inl rfl)) (pgs_cons (pg_name (i := 3) scis_cell_of.nd rfl (Or.inl rfl)) pgs_nil))))
      (pss_cons (ps_if (pt_not (pt_val (pe_call (ok_is_whole_from T) (hr.mono (by decide)) (by rfl) T.g20 T.F20.kp T.b20 .nil pass0 (pa_cons pe_int (pa_cons (pe_op op_sub (pe_callB (r := rLenS K) len_seq (by rfl) T.m_len bt_len (pa_cons (pv 0) pa_nil)) pe_int) (pa_cons (pv 2) pa_nil)))))) (pss_one (ps_ret pe_bl)) pss_nil)
      (pss_one (ps_ret (pe_call (ok_is_whole_from T) (hr.mono (by decide)) (by rfl) T.g20 T.F20.kp T.b20 .nil pass0 (pa_cons pe_int (pa_cons (pe_op op_sub (pe_ix (r := rIxT K) ix_tup (pv 0) (pv 2) (fun _ _ => rfl)) pe_int) (pa_cons (pv 3) pa_nil))))))))), ?_⟩
    rcases h with ⟨b, r, c, rfl, hb, ⟨x, h1, h2⟩, q⟩ | ⟨h | ⟨b, ys, rfl, hb, hl⟩ | ⟨b, x, y, rfl, hb, hx, hy, hn⟩, q⟩
    · have hr1 := (List.getElem?_eq_some_iff.mp h1).1
      refine ⟨_, rfl, _, .ty "tuple", .type "tuple", .type "tuple", true, rfl, .ty _, .base (.tup hb), kit_ty (by decide +kernel), _, rfl, ?_⟩
      refine iteF ⟨.ref b, rfl, b, _, rfl, .inr (SqT.of hb), rfl, _, rfl, ?_⟩
      refine iteF ⟨.ref b, rfl, b, _, rfl, SqT.of hb, rfl, _, _, rfl, _, _, rfl, rfl, ?_⟩
      refine ⟨.ref a, rfl, a, _, rfl, .inr (SqT.of ha), _, _, rfl, rfl, _, rfl, 0, _, _, rfl, .inl ⟨(r : Int), rfl, ?_⟩⟩
      rw [decide_eq_true (show (0 : Int) ≤ (r : Int) by omega), decide_eq_true (show (r : Int) ≤ ((xs.map V.int).length : Int) - 1 by rw [List.length_map]; omega)]
      refine ⟨_, rfl, ?_⟩
      refine iteF ⟨.ref a, rfl, _, rfl, a, _, _, .int x, rfl, rfl, SqT.of ha, at_get (by omega) ?_, _, _, rfl, rfl, _, rfl, 0, _, _, rfl, .inl ⟨(c : Int), rfl, ?_⟩⟩
      · rw [List.getElem?_map, Int.toNat_natCast, h1]
        rfl
      · rw [decide_eq_true (show (0 : Int) ≤ (c : Int) by omega), decide_eq_true (show (c : Int) ≤ x - 1 by omega)]
        exact q
    · obtain ⟨t, ty, k⟩ := h.ty (K := K)
      exact ⟨_, rfl, _, .ty "tuple", t, .type "tuple", false, rfl, .ty _, ty, k, _, rfl, iteT q⟩
    · refine ⟨_, rfl, _, .ty "tuple", .type "tuple", .type "tuple", true, rfl, .ty _, .base (.tup hb), kit_ty (by decide +kernel), _, rfl, iteF ⟨.ref b, rfl, b, _, rfl, .inr (SqT.of hb), rfl, _, rfl, ?_⟩⟩
      rw [decide_eq_false (fun z => hl (by have := V.int.inj z; omega))]
      exact iteT q
    · refine ⟨_, rfl, _, .ty "tuple", .type "tuple", .type "tuple", true, rfl, .ty _, .base (.tup hb), kit_ty (by decide +kernel), _, rfl, ?_⟩
      refine iteF ⟨.ref b, rfl, b, _, rfl, .inr (SqT.of hb), rfl, _, rfl, ?_⟩
      refine iteF ⟨.ref b, rfl, b, _, rfl, SqT.of hb, rfl, _, _, rfl, _, _, rfl, rfl, ?_⟩
      refine ⟨.ref a, rfl, a, _, rfl, .inr (SqT.of ha), _, _, rfl, rfl, _, rfl, 0, _, x, rfl, ?_⟩
      rcases hx with ⟨i, rfl⟩ | o
      · refine .inl ⟨i, rfl, _, rfl, ?_⟩
        rw [List.length_map]
        by_cases c : 0 ≤ i ∧ i < (xs.length : Int)
        · rw [decide_eq_true c.1, decide_eq_true (show i ≤ (xs.length : Int) - 1 by omega)]
          have hi : i.toNat < xs.length := by omega
          refine iteF ⟨.ref a, rfl, _, rfl, a, _, _, .int (xs.getD i.toNat 0), rfl, rfl, SqT.of ha, at_get c.1 ?_, _, _, rfl, rfl, _, rfl, 0, _, y, rfl, ?_⟩
          · rw [List.getElem?_map, List.getElem?_eq_getElem hi, getD_in hi]
            rfl
          · rcases hy with ⟨j, rfl⟩ | o
            · refine .inl ⟨j, rfl, ?_⟩
              have z : (decide ((0 : Int) ≤ j) && decide (j ≤ xs.getD i.toNat 0 - 1)) = false := by
                rcases hn i j rfl rfl c.1 c.2 with h | h
                · rw [decide_eq_false (by omega), Bool.false_and]
                · rw [decide_eq_false (show ¬ j ≤ xs.getD i.toNat 0 - 1 by omega), Bool.and_false]
              rw [z]
              exact q
            · exact .inr ⟨o, q⟩
        · have z : (decide ((0 : Int) ≤ i) && decide (i ≤ (xs.length : Int) - 1)) = false := by
            by_cases c1 : 0 ≤ i
            · rw [decide_eq_false (show ¬ i ≤ (xs.length : Int) - 1 by omega), Bool.and_false]
            · rw [decide_eq_false c1, Bool.false_and]
          rw [z]
          exact iteT q
      · exact .inr ⟨o, _, rfl, iteT q⟩
def sp_hook_of (C : Addr) : Sp := fun vs H Q E => ∃ (a : Addr) (v : V) (xs : List Int), vs = [.ref a, v] ∧ H a = some (.tup (xs.map V.int)) ∧ Sh xs ∧
  ((∃ (b : Addr) (r c : Nat), v = .ref b ∧ H b = some (.tup [.int (r : Int), .int (c : Int)]) ∧ Cell xs r c ∧ ∀ H', Same H H' → Q (.int (hkI xs r c)) H') ∨ (NoCl H xs v ∧ ∀ H', Same H H' → E (.ref C) none H'))
theorem ok_hook_of (T : Txt K mg f fd) : FnOk P w K mg base (L2.CX P w) 4 (f 25) (fd 25) ["share", "cell"] (sp_hook_of (f 7)) := by
  refine T.F25.okX schook_of (fun vs H Q E h => ?_) (fun cdv A outer s H vs Q E hr h => ?_)
  · obtain ⟨a, v, xs, rfl, _⟩ := h
    rfl
  · obtain ⟨a, v, xs, rfl, ha, hx, h⟩ := h
    refine ⟨_, (pss_cons (ps_if (pt_not (pt_val (pe_call (ok_is_cell_of T) (hr.mono (by decide)) (by rfl) T.g28 T.F28.kp T.b28 .nil pass0 (pa_cons (pv 0) (pa_cons (pv 1) pa_nil))))) (pss_one (ps_raise rfl (takes_of rfl rfl rfl rfl) (pmk_own PySem.F.excBase_ValueError T.x7 T.g7 T.k7 (raises_own T.e7.hs T.t7) rfl))) pss_nil)
      (pss_cons (ps_asg (pv 1) (pg_tup rfl (pgs_cons (pg_name (i := 2) schook_of.nd rfl (Or.inl rfl)) (pgs_cons (pg_name (i := 3) schook_of.nd rfl (Or.inl rfl)) pgs_nil))))
      (pss_one (ps_ret (pe_ix (r := rIxT K) ix_tup (pe_ix (r := rIxT K) ix_tup (pe_call (ok_hooks_of T) (hr.mono (by decide)) (by rfl) T.g26 T.F26.kp T.b26 .nil pass0 (pa_cons (pv 0) pa_nil)) (pv 2) (fun _ _ => rfl)) (pv 3) (fun _ _ => rfl)))))), ?_⟩
    rcases h with ⟨b, r, c, rfl, hb, hc, q⟩ | ⟨hb, q⟩
    · obtain ⟨x, h1, h2⟩ := id hc
      have hr1 := (List.getElem?_eq_some_iff.mp h1).1
      have hg : xs.getD r 0 = x := by rw [List.getD_eq_getElem?_getD, h1]; rfl
      refine ⟨.ref a, rfl, .ref b, rfl, a, _, xs, rfl, ha, .inl ⟨b, r, c, rfl, hb, hc, _, rfl, ?_⟩⟩
      refine iteF ⟨.ref b, rfl, b, _, rfl, SqT.of hb, rfl, _, _, rfl, _, _, rfl, rfl, ?_⟩
      refine ⟨.ref a, rfl, a, xs, rfl, ha, hx, fun H1 t as s1 ht hp => ?_⟩
      obtain ⟨u, hu, hru⟩ := hp.at (hookRows_at hr1)
      refine ⟨_, rfl, t, _, _, .ref u, rfl, rfl, SqT.of ht, at_get (by omega) ?_, _, rfl, u, _, _, .int (hkI xs r c), rfl, rfl, SqT.of hru, at_get (by omega) ?_, q _ s1⟩
      · rw [List.getElem?_map, Int.toNat_natCast, hu]
        rfl
      · rw [List.getElem?_map, Int.toNat_natCast, hookRow_at (by omega)]
        rfl
    · exact ⟨.ref a, rfl, v, rfl, a, v, xs, rfl, ha, .inr ⟨hb, _, rfl, iteT (q _ (Same.refl _))⟩⟩
def sp_law_refused : Sp := fun vs H Q _ => ∃ (a : Addr) (v : V) (xs : List Int), vs = [.ref a, v] ∧ H a = some (.tup (xs.map V.int)) ∧ Sh xs ∧ NoCl H xs v ∧ ∀ H', Same H H' → Q (.bl true) H'
theorem ok_law_refused (T : Txt K mg f fd) : FnOk P w K mg base CX0 5 (f 33) (fd 33) ["_law_share_here", "_law_thing"] sp_law_refused := by
  refine T.F33.ok sc_law_refused (fun vs H Q E h => ?_) (fun cdv A outer s H vs Q E hr h => ?_)
  · obtain ⟨a, v, xs, rfl, _⟩ := h
    rfl
  · obtain ⟨a, v, xs, rfl, ha, hx, hv, q⟩ := h
    refine ⟨_, (pss_cons (ps_set (i := 2) sc_law_refused.nd rfl (Or.inl rfl) pe_non)
      (Evl.pss_cut (ps_try_keep (i := 3) rfl rfl rfl sc_law_refused.nd rfl rfl ⟨rfl, by decide, .inl T.g1⟩ (fun W pn xe tk po => (pss_one (ps_expr (pe_callS (ok_hook_of T) (hr.mono (by decide)) (by rfl) T.g25 T.F25.kp T.b25 (fun σ => passAt tk σ) (pa_cons (pv 0) (pa_cons (pv 1) pa_nil)))))) (fun a oe cls pn hz hfl => (pss_one (ps_set (i := 2) sc_law_refused.nd rfl (Or.inl rfl) (pv 3)))))
      (Evl.pss_cut (ps_if (pt_val (pe_callB (r := rIsKT K) call_isKT (by rfl) T.m_isinstance bt_isinstance (pa_cons (pv 2) (pa_cons (pe_tup (pa_cons (pe_glob (v := .ref (f 15)) (by rfl) T.g15 rfl) (pa_cons (pe_glob (v := .ref (f 3)) (by rfl) T.g3 rfl) (pa_cons (pe_glob (v := .ref (f 8)) (by rfl) T.g8 rfl) (pa_cons (pe_glob (v := .ref (f 10)) (by rfl) T.g10 rfl) (pa_cons (pe_glob (v := .ref (f 4)) (by rfl) T.g4 rfl) (pa_cons (pe_glob (v := .ref (f 5)) (by rfl) T.g5 rfl) (pa_cons (pe_glob (v := .ref (f 13)) (by rfl) T.g13 rfl) (pa_cons (pe_glob (v := .ref (f 6)) (by rfl) T.g6 rfl) (pa_cons (pe_glob (v := .ref (f 2)) (by rfl) T.g2 rfl) (pa_cons (pe_glob (v := .ref (f 9)) (by rfl) T.g9 rfl) pa_nil))))))))))) pa_nil)))) (pss_one (ps_ret pe_bl)) pss_nil)
      (Evl.pss_cut (ps_if (pt_val (pe_callB (r := rIsKT K) call_isKT (by rfl) T.m_isinstance bt_isinstance (pa_cons (pv 2) (pa_cons (pe_tup (pa_cons (pe_glob (v := .ref (f 12)) (by rfl) T.g12 rfl) (pa_cons (pe_glob (v := .ref (f 16)) (by rfl) T.g16 rfl) (pa_cons (pe_glob (v := .ref (f 11)) (by rfl) T.g11 rfl) (pa_cons (pe_glob (v := .ref (f 14)) (by rfl) T.g14 rfl) (pa_cons (pe_glob (v := .ref (f 17)) (by rfl) T.g17 rfl) pa_nil)))))) pa_nil)))) (pss_one (ps_ret pe_bl)) pss_nil)
      (pss_one (ps_ret (pe_and (pe_callB (r := rIsK K) call_isK (by rfl) T.m_isinstance bt_isinstance (pa_cons (pv 2) (pa_cons (pe_glob (v := .ref (f 7)) (by rfl) T.g7 rfl) pa_nil))) (pe_one (pe_callB (r := rIsK K) call_isK (by rfl) T.m_isinstance bt_isinstance (pa_cons (pv 2) (pa_cons (pe_bltn (v := .ty "ValueError") (by rfl) T.m_ValueError bt_ValueError rfl) pa_nil))))))))))), ?_⟩
    refine ⟨fun σ H1 => ∃ x, σ = [some (.ref a), some v, some (.ref x), none] ∧ H1 x = some (ExK (.ref (f 7)) x) ∧ Same H H1, ?_, ?_⟩
    · refine ⟨.ref a, rfl, v, rfl, a, v, xs, rfl, ha, hx, .inr ⟨hv, fun H1 s1 => ⟨rfl, T.m7, fun x nx => ⟨.ref x, rfl, ⟨x, rfl, upd_same, s1.trans (same_new nx)⟩⟩⟩⟩⟩
    rintro _ H1 ⟨x, rfl, hx, s1⟩
    refine ⟨fun σ H2 => σ = [some (.ref a), some v, some (.ref x), none] ∧ Same H1 H2, ?_, ?_⟩
    · refine ⟨.ref x, rfl, small_line (by show 10 ≤ 100000; omega), fun tp ntp => ?_⟩
      have s2 := same_new (o := .tup [V.ref (f 15), V.ref (f 3), V.ref (f 8), V.ref (f 10), V.ref (f 4), V.ref (f 5), V.ref (f 13), V.ref (f 6), V.ref (f 2), V.ref (f 9)]) ntp
      refine ⟨x, f 7, tp, _, _, false, rfl, s2 _ _ hx, T.e7, upd_same, (.cons (.own _) (.cons (.own _) (.cons (.own _) (.cons (.own _) (.cons (.own _) (.cons (.own _) (.cons (.own _) (.cons (.own _) (.cons (.own _) (.cons (.own _) .nil)))))))))), ?_, _, rfl, iteF ⟨rfl, s2⟩⟩
      simp only [PySem.W.kitAny, T.q7_15, T.q7_3, T.q7_8, T.q7_10, T.q7_4, T.q7_5, T.q7_13, T.q7_6, T.q7_2, T.q7_9]
    rintro _ H2 ⟨rfl, s2⟩
    have hx2 := s2 _ _ hx
    refine ⟨fun σ H3 => σ = [some (.ref a), some v, some (.ref x), none] ∧ Same H2 H3, ?_, ?_⟩
    · refine ⟨.ref x, rfl, small_line (by show 5 ≤ 100000; omega), fun tp ntp => ?_⟩
      have s3 := same_new (o := .tup [V.ref (f 12), V.ref (f 16), V.ref (f 11), V.ref (f 14), V.ref (f 17)]) ntp
      refine ⟨x, f 7, tp, _, _, false, rfl, s3 _ _ hx2, T.e7, upd_same, (.cons (.own _) (.cons (.own _) (.cons (.own _) (.cons (.own _) (.cons (.own _) .nil))))), ?_, _, rfl, iteF ⟨rfl, s3⟩⟩
      simp only [PySem.W.kitAny, T.q7_12, T.q7_16, T.q7_11, T.q7_14, T.q7_17]
    rintro _ H3 ⟨rfl, s3⟩
    have hx3 := s3 _ _ hx2
    refine ⟨.ref x, rfl, x, f 7, .ref (f 7), .ref (f 7), true, rfl, hx3, T.e7, .own _, T.q7_7, _, rfl, ?_⟩
    rw [if_pos rfl]
    exact ⟨.ref x, rfl, x, f 7, .ty "ValueError", .type "ValueError", true, rfl, hx3, T.e7, .ty _, T.v7, q _ ((s1.trans s2).trans s3)⟩
/-! ### _law_no_cells -/
theorem kpn {H H' : Hp} (s : Same H H') : KeepN H H' := fun b o e _ => s b o e
def It (K : PySem.W.Frag) (H : Hp) (xs : List Int) (v : V) : Prop := NoCl H xs v ∧ ∃ d, Shw K H v d
theorem It.same {H H' : Hp} {xs : List Int} {v : V} (h : It K H xs v) (s : Same H H') : It K H' xs v := let ⟨h1, d, h2⟩ := h; ⟨h1.same s, d, h2.keep (kpn s)⟩
theorem two {p : V → Prop} {x y : V} (hx : p x) (hy : p y) : ∀ z ∈ [x, y], p z := by
  intro z m
  simp only [List.mem_cons, List.not_mem_nil, or_false] at m
  rcases m with rfl | rfl
  · exact hx
  · exact hy
theorem it_pair {H : Hp} {xs : List Int} {a : Addr} {x y : V} (h : H a = some (.tup [x, y])) (dx : Sd H x) (dy : Sd H y) (hx : ElP K H x) (hy : ElP K H y) (n : NoP xs x y) : It K H xs (.ref a) :=
  ⟨.inr (.inr ⟨a, x, y, rfl, h, dx, dy, n⟩), shw_tup h (by show 2 ≤ 5; omega) (two hx hy)⟩
theorem it_pairD {H : Hp} {xs : List Int} {a : Addr} {x y : V} (h : H a = some (.tup [x, y])) (dx : Sd H x) (dy : Sd H y) (hx : ElD K H x) (hy : ElD K H y) (n : NoP xs x y) : It K H xs (.ref a) :=
  ⟨.inr (.inr ⟨a, x, y, rfl, h, dx, dy, n⟩), shw_tupD h (by show 2 ≤ 5; omega) (two hx hy)⟩
theorem it_len {H : Hp} {xs : List Int} {a : Addr} {ys : List V} (h : H a = some (.tup ys)) (hl : ys.length ≠ 2) (hl5 : ys.length ≤ 5) (hy : ∀ y ∈ ys, ElP K H y) : It K H xs (.ref a) :=
  ⟨.inr (.inl ⟨a, ys, rfl, h, hl⟩), shw_tup h hl5 hy⟩
theorem it_int {H : Hp} {xs : List Int} {a : Addr} {i j : Int} (h : H a = some (.tup [.int i, .int j])) (hi : i.natAbs.log2 < 1920) (hj : j.natAbs.log2 < 1920) (n : 0 ≤ i → i < (xs.length : Int) → j < 0 ∨ xs.getD i.toNat 0 ≤ j) : It K H xs (.ref a) :=
  it_pair h (.inl ⟨_, rfl⟩) (.inl ⟨_, rfl⟩) (elP_int hi) (elP_int hj) fun i' j' e1 e2 => by
    cases e1
    cases e2
    exact n
theorem getD_le {xs : List Int} (h : Sh xs) (i : Nat) : xs.getD i 0 ≤ 20 := by
  rw [List.getD_eq_getElem?_getD]
  cases e : xs[i]? with
  | none => show (0 : Int) ≤ 20; decide
  | some x => exact (h.a x (List.mem_of_getElem? e)).2
/-- the things of a list -/
def Its (K : PySem.W.Frag) (H : Hp) (xs : List Int) (Z : Addr) (n : Nat) : Prop := ∃ zs, H Z = some (.lst zs) ∧ zs.length ≤ n ∧ ∀ v ∈ zs, It K H xs v
theorem Its.same {H H' : Hp} {xs : List Int} {Z : Addr} {n : Nat} (h : Its K H xs Z n) (s : Same H H') : Its K H' xs Z n := let ⟨zs, h1, h2, h3⟩ := h; ⟨zs, s _ _ h1, h2, fun v m => (h3 v m).same s⟩
theorem one1 {p : V → Prop} {x : V} (hx : p x) : ∀ z ∈ [x], p z := by
  intro z m
  rw [List.mem_singleton.mp m]
  exact hx
theorem three1 {p : V → Prop} {x y u : V} (hx : p x) (hy : p y) (hu : p u) : ∀ z ∈ [x, y, u], p z := by
  intro z m
  simp only [List.mem_cons, List.not_mem_nil, or_false] at m
  rcases m with rfl | rfl | rfl
  · exact hx
  · exact hy
  · exact hu
theorem str_small {i : Int} (h0 : 0 ≤ i) (h1 : i ≤ 20) : (reprText (toString i)).length ≤ 8000 := by
  have k : ∀ n : Fin 21, (reprText (toString ((n.val : Nat) : Int))).length ≤ 8000 := by decide +kernel
  have e : i = ((i.toNat : Nat) : Int) := by omega
  rw [e]
  exact k ⟨i.toNat, by omega⟩
theorem upd_over {H : Hp} {c : Addr} {o o' o2 : HO} (e : o' = o2) : upd (upd H c o) c o' = upd H c o2 := by
  subst e
  funext b
  unfold upd
  split <;> rfl
def sp_law_no_cells (K : PySem.W.Frag) : Sp := fun vs H Q _ => ∃ (a : Addr) (xs : List Int) (r c : Int), vs = [.ref a, .int r, .int c] ∧ H a = some (.tup (xs.map V.int)) ∧ Sh xs ∧ 0 ≤ r ∧ r ≤ 20 ∧ 0 ≤ c ∧ c ≤ 20 ∧
  ∀ H' L, Same H H' → Its K H' xs L 1000 → Q (.ref L) H'
theorem ok_law_no_cells (T : Txt K mg f fd) : FnOk P w K mg base CX0 1 (f 34) (fd 34) ["_law_share_here", "_law_r", "_law_c"] (sp_law_no_cells K) := by
  refine T.F34.ok sc_law_no_cells (fun vs H Q E h => ?_) (fun cdv A outer s H vs Q E hr h => ?_)
  · obtain ⟨a, xs, r, c, rfl, _⟩ := h
    rfl
  · obtain ⟨a, xs, r, c, rfl, ha, hx, hr0, hr1, hc0, hc1, q⟩ := h
    have hn := hx.n
    have e29 : (10 : Int) ^ (29 : Int).toNat = 100000000000000000000000000000 := by decide
    have hg : ∀ i : Int, xs.getD i.toNat 0 ≤ 20 := fun i => getD_le hx _
    refine ⟨_, (pss_cons (ps_set (i := 3) sc_law_no_cells.nd rfl (Or.inl rfl) (pe_callB (r := rLenS K) len_seq (by rfl) T.m_len bt_len (pa_cons (pv 0) pa_nil)))
      (Evl.pss_cut (ps_setLc (i := 4) (own := [("_law_k", 5)]) (g := (gName 5)) (tt := tYes) rfl sc_law_no_cells.nd rfl rfl (sw_true rfl rfl rfl (by decide +kernel)) (pi_range1 (by rfl) T.m_range (pa_cons (pv 3) pa_nil)) (blkOk_by (N := N_law_no_cells) (sc := defScope st_law_no_cells) (by decide +kernel)) (fun _ _ _ _ _ => (pg_name (i := 5) sc_law_no_cells.nd rfl (Or.inl rfl))) (fun _ _ _ _ _ => pts_nil) (fun _ _ _ _ _ => (pe_tup (pa_cons (pv 5) (pa_cons (pe_ix (r := rIxT K) ix_tup (pv 0) (pv 5) (fun _ _ => rfl)) pa_nil)))))
      (Evl.pss_cut (ps_set (i := 4) sc_law_no_cells.nd rfl (Or.inl rfl) (pe_op op_cat (pv 4) (pe_lst (pa_cons (pe_tup (pa_cons (pv 3) (pa_cons pe_int pa_nil))) (pa_cons (pe_tup (pa_cons (pv 3) (pa_cons (pv 2) pa_nil))) (pa_cons (pe_tup (pa_cons (pe_un un_neg pe_int) (pa_cons (pv 2) pa_nil))) (pa_cons (pe_tup (pa_cons (pv 1) (pa_cons (pe_un un_neg pe_int) pa_nil))) (pa_cons (pe_tup (pa_cons (pe_un un_neg pe_int) (pa_cons (pe_un un_neg pe_int) pa_nil))) (pa_cons (pe_tup (pa_cons (pe_op op_add (pv 3) pe_int) (pa_cons pe_int pa_nil))) pa_nil)))))))))
      (Evl.pss_cut (ps_set (i := 4) sc_law_no_cells.nd rfl (Or.inl rfl) (pe_op op_cat (pv 4) (pe_lst (pa_cons (pe_tup (pa_cons (pv 1) (pa_cons (pe_op op_add (pv 2) (pe_op op_pow pe_int pe_int)) pa_nil))) (pa_cons (pe_tup (pa_cons (pe_op op_pow pe_int pe_int) (pa_cons (pv 2) pa_nil))) (pa_cons (pe_tup (pa_cons (pv 1) (pa_cons (pe_op op_sub pe_int (pe_op op_pow pe_int pe_int)) pa_nil))) (pa_cons (pe_tup (pa_cons pe_int (pa_cons pe_int pa_nil))) (pa_cons (pe_tup (pa_cons pe_int (pa_cons pe_int pa_nil))) pa_nil))))))))
      (Evl.pss_cut (ps_set (i := 4) sc_law_no_cells.nd rfl (Or.inl rfl) (pe_op op_cat (pv 4) (pe_lst (pa_cons (pe_tup (pa_cons (pv 1) pa_nil)) (pa_cons (pe_tup (pa_cons (pv 1) (pa_cons (pv 2) (pa_cons pe_int pa_nil)))) (pa_cons (pe_lst (pa_cons (pv 1) (pa_cons (pv 2) pa_nil))) (pa_cons (pv 1) (pa_cons (pe_tup pa_nil) (pa_cons (pe_tup (pa_cons pe_bl (pa_cons pe_int pa_nil))) (pa_cons (pe_tup (pa_cons pe_int (pa_cons pe_bl pa_nil))) (pa_cons (pe_tup (pa_cons pe_bl (pa_cons pe_int pa_nil))) (pa_cons (pe_tup (pa_cons pe_int (pa_cons pe_bl pa_nil))) pa_nil))))))))))))
      (Evl.pss_cut (ps_set (i := 4) sc_law_no_cells.nd rfl (Or.inl rfl) (pe_op op_cat (pv 4) (pe_lst (pa_cons (pe_tup (pa_cons pe_bl (pa_cons pe_bl pa_nil))) (pa_cons (pe_tup (pa_cons pe_non (pa_cons (pv 2) pa_nil))) (pa_cons (pe_tup (pa_cons (pv 1) (pa_cons pe_non pa_nil))) (pa_cons (pe_tup (pa_cons (pe_callTy (r := rStrI) call_strI (by rfl) T.m_str bt_str (pa_cons (pv 1) pa_nil)) (pa_cons (pv 2) pa_nil))) (pa_cons (pe_tup (pa_cons (pv 1) (pa_cons (pe_callTy (r := rStrI) call_strI (by rfl) T.m_str bt_str (pa_cons (pv 2) pa_nil)) pa_nil))) (pa_cons (pe_tup (pa_cons (pe_tup (pa_cons (pv 1) pa_nil)) (pa_cons (pv 2) pa_nil))) pa_nil)))))))))
      (Evl.pss_cut (ps_set (i := 4) sc_law_no_cells.nd rfl (Or.inl rfl) (pe_op op_cat (pv 4) (pe_lst (pa_cons (pe_tup (pa_cons (pv 1) (pa_cons (pe_lst (pa_cons (pv 2) pa_nil)) pa_nil))) (pa_cons (pe_tup (pa_cons (pv 1) (pa_cons pe_dnewK pa_nil))) (pa_cons pe_non (pa_cons pe_bl (pa_cons pe_bl (pa_cons pe_str (pa_cons pe_str (pa_cons pe_str (pa_cons pe_dnewK (pa_cons (pe_disp (pps_cons (pv 1) (pv 2) pps_nil) (by rfl) (by rfl) (fun z => by cases z) (by decide)) (pa_cons (pe_lst (pa_cons (pe_tup (pa_cons (pv 1) (pa_cons (pv 2) pa_nil))) pa_nil)) pa_nil))))))))))))))
      (pss_one (ps_ret (pe_op op_cat (pv 4) (pe_lst (pa_cons (pe_tup (pa_cons (pe_tup (pa_cons (pv 1) (pa_cons (pv 2) pa_nil))) pa_nil)) (pa_cons (pe_tup (pa_cons (pe_tup (pa_cons (pv 1) (pa_cons (pv 2) pa_nil))) (pa_cons (pe_tup (pa_cons (pv 1) (pa_cons (pv 2) pa_nil))) pa_nil))) (pa_cons (pe_tup (pa_cons (pv 1) (pa_cons (pe_tup (pa_cons (pv 2) (pa_cons (pv 2) pa_nil))) pa_nil))) (pa_cons (pe_tup (pa_cons pe_dnewK (pa_cons (pv 2) pa_nil))) (pa_cons (pe_tup (pa_cons pe_non (pa_cons pe_non pa_nil))) pa_nil)))))))))))))))), ?_⟩
    refine ⟨.ref a, rfl, a, _, rfl, .inr (SqT.of ha), ?_⟩
    rw [List.length_map]
    refine ⟨fun σ H1 => ∃ Z, σ = [some (.ref a), some (.int r), some (.int c), some (.int (xs.length : Int)), some (.ref Z), none] ∧ Same H H1 ∧ Its K H1 xs Z 20, ?_, ?_⟩
    · refine ⟨_, rfl, _, rfl, by omega, by omega, fun D nD => ?_⟩
      refine lc_it (walk_range (lo := 0) (n := xs.length)) (fun i H2 => Same H H2 ∧ ∃ as : List Addr, H2 D = some (.lst (as.map V.ref)) ∧ PrT H2 as ((List.range i).map fun k : Nat => [(k : Int), xs.getD k 0])) ⟨same_new nD, [], upd_same, .nil⟩ (fun _ _ _ _ => trivial) ?_ ?_
      · rintro i v _ H2 hi ⟨s2, as, hD, hp⟩ ⟨rfl, rfl⟩
        refine ⟨rfl, ?_⟩
        simp only [tYes, reduceIte]
        refine ⟨_, rfl, .ref a, rfl, _, rfl, a, _, _, .int (xs.getD i 0), rfl, rfl, SqT.of (s2 _ _ ha), at_get (by omega) ?_, small_line (by show 2 ≤ 100000; omega), fun t nt => ?_⟩
        · rw [List.getElem?_map, show ((0 : Int) + (i : Int)).toNat = i by omega, List.getElem?_eq_getElem hi, getD_in hi]
          rfl
        rw [Int.zero_add]
        have s3 := same_new (o := .tup [V.int (i : Int), V.int (xs.getD i 0)]) nt
        have ht : (upd H2 t (.tup [V.int (i : Int), V.int (xs.getD i 0)])) t = some (.tup [V.int (i : Int), V.int (xs.getD i 0)]) := upd_same
        generalize upd H2 t (.tup [V.int (i : Int), V.int (xs.getD i 0)]) = H3 at s3 ht ⊢
        have hD3 := s3 _ _ hD
        have hal := hp.len
        rw [List.length_map, List.length_range] at hal
        refine ⟨_, hD3, small_lt (by rw [List.length_map]; omega), fun b o e => ?_, as ++ [t], by rw [upd_same, List.map_append]; rfl, ?_⟩
        · rw [upd_ne (ne_of_none e nD)]
          exact s3 _ _ (s2 _ _ e)
        · have er : (List.range (i + 1)).map (fun k : Nat => [(k : Int), xs.getD k 0]) = (List.range i).map (fun k : Nat => [(k : Int), xs.getD k 0]) ++ [[(i : Int), xs.getD i 0]] := by
            rw [List.range_succ, List.map_append]
            rfl
          rw [er]
          exact PrT.upd (PrT.snoc ht (hp.same s3)) hD3
      · rintro H2 ⟨s2, as, hD, hp⟩
        have hal := hp.len
        rw [List.length_map, List.length_range] at hal
        refine ⟨D, rfl, s2, _, hD, by rw [List.length_map]; omega, fun v hv => ?_⟩
        obtain ⟨t, ht, rfl⟩ := List.mem_map.mp hv
        obtain ⟨k, hk, e⟩ := List.mem_iff_getElem.mp ht
        have hk' : k < xs.length := by omega
        obtain ⟨t', e', h'⟩ := hp.at (i := k) (r := [(k : Int), xs.getD k 0]) (by rw [List.getElem?_map, List.getElem?_range hk']; rfl)
        rw [List.getElem?_eq_getElem hk, e] at e'
        cases e'
        have hxk := hx.a xs[k] (List.getElem_mem hk')
        refine it_int h' (lg (by omega) (by omega)) (lg (by rw [getD_in hk']; omega) (by rw [getD_in hk']; omega)) fun _ _ => ?_
        right
        rw [Int.toNat_natCast]
        exact Int.le_refl _
    rintro _ H1 ⟨Z, rfl, s0, B⟩
    refine ⟨fun σ H1 => ∃ Z, σ = [some (.ref a), some (.int r), some (.int c), some (.int (xs.length : Int)), some (.ref Z), none] ∧ Same H H1 ∧ Its K H1 xs Z 26, ?_, ?_⟩
    · have sH := s0
      refine ⟨.ref Z, rfl, _, rfl, small_line (by show 2 ≤ 100000; omega), fun c1 n1 => ?_⟩
      have s1 := same_new (o := .tup [V.int (xs.length : Int), V.int 0]) n1
      have h1 : (upd H1 c1 (.tup [V.int (xs.length : Int), V.int 0])) c1 = some (.tup [V.int (xs.length : Int), V.int 0]) := upd_same
      generalize upd H1 c1 (.tup [V.int (xs.length : Int), V.int 0]) = G1 at s1 h1 ⊢
      have B := B.same s1
      have sH := sH.trans s1
      have b1 : It K G1 xs (.ref c1) := it_int h1 (lg (by omega) (by omega)) (lg (by omega) (by omega)) (fun i0 i1 => by have := hg ((xs.length : Int)); omega)
      refine ⟨_, rfl, _, rfl, small_line (by show 2 ≤ 100000; omega), fun c2 n2 => ?_⟩
      have s2 := same_new (o := .tup [V.int (xs.length : Int), V.int c]) n2
      have h2 : (upd G1 c2 (.tup [V.int (xs.length : Int), V.int c])) c2 = some (.tup [V.int (xs.length : Int), V.int c]) := upd_same
      generalize upd G1 c2 (.tup [V.int (xs.length : Int), V.int c]) = G2 at s2 h2 ⊢
      have h1 := s2 _ _ h1
      have b1 := b1.same s2
      have B := B.same s2
      have sH := sH.trans s2
      have b2 : It K G2 xs (.ref c2) := it_int h2 (lg (by omega) (by omega)) (lg (by omega) (by omega)) (fun i0 i1 => by have := hg ((xs.length : Int)); omega)
      refine ⟨_, rfl, _, rfl, small_line (by show 2 ≤ 100000; omega), fun c3 n3 => ?_⟩
      have s3 := same_new (o := .tup [V.int (-1), V.int c]) n3
      have h3 : (upd G2 c3 (.tup [V.int (-1), V.int c])) c3 = some (.tup [V.int (-1), V.int c]) := upd_same
      generalize upd G2 c3 (.tup [V.int (-1), V.int c]) = G3 at s3 h3 ⊢
      have h1 := s3 _ _ h1
      have h2 := s3 _ _ h2
      have b1 := b1.same s3
      have b2 := b2.same s3
      have B := B.same s3
      have sH := sH.trans s3
      have b3 : It K G3 xs (.ref c3) := it_int h3 (lg (by omega) (by omega)) (lg (by omega) (by omega)) (fun i0 i1 => by have := hg ((-1)); omega)
      refine ⟨_, rfl, _, rfl, small_line (by show 2 ≤ 100000; omega), fun c4 n4 => ?_⟩
      have s4 := same_new (o := .tup [V.int r, V.int (-1)]) n4
      have h4 : (upd G3 c4 (.tup [V.int r, V.int (-1)])) c4 = some (.tup [V.int r, V.int (-1)]) := upd_same
      generalize upd G3 c4 (.tup [V.int r, V.int (-1)]) = G4 at s4 h4 ⊢
      have h1 := s4 _ _ h1
      have h2 := s4 _ _ h2
      have h3 := s4 _ _ h3
      have b1 := b1.same s4
      have b2 := b2.same s4
      have b3 := b3.same s4
      have B := B.same s4
      have sH := sH.trans s4
      have b4 : It K G4 xs (.ref c4) := it_int h4 (lg (by omega) (by omega)) (lg (by omega) (by omega)) (fun i0 i1 => by have := hg (r); omega)
      refine ⟨_, rfl, _, rfl, small_line (by show 2 ≤ 100000; omega), fun c5 n5 => ?_⟩
      have s5 := same_new (o := .tup [V.int (-1), V.int (-1)]) n5
      have h5 : (upd G4 c5 (.tup [V.int (-1), V.int (-1)])) c5 = some (.tup [V.int (-1), V.int (-1)]) := upd_same
      generalize upd G4 c5 (.tup [V.int (-1), V.int (-1)]) = G5 at s5 h5 ⊢
      have h1 := s5 _ _ h1
      have h2 := s5 _ _ h2
      have h3 := s5 _ _ h3
      have h4 := s5 _ _ h4
      have b1 := b1.same s5
      have b2 := b2.same s5
      have b3 := b3.same s5
      have b4 := b4.same s5
      have B := B.same s5
      have sH := sH.trans s5
      have b5 : It K G5 xs (.ref c5) := it_int h5 (lg (by omega) (by omega)) (lg (by omega) (by omega)) (fun i0 i1 => by have := hg ((-1)); omega)
      refine ⟨_, rfl, _, _, rfl, rfl, small_line (by show 2 ≤ 100000; omega), fun c6 n6 => ?_⟩
      have s6 := same_new (o := .tup [V.int ((xs.length : Int) + 5), V.int 0]) n6
      have h6 : (upd G5 c6 (.tup [V.int ((xs.length : Int) + 5), V.int 0])) c6 = some (.tup [V.int ((xs.length : Int) + 5), V.int 0]) := upd_same
      generalize upd G5 c6 (.tup [V.int ((xs.length : Int) + 5), V.int 0]) = G6 at s6 h6 ⊢
      have h1 := s6 _ _ h1
      have h2 := s6 _ _ h2
      have h3 := s6 _ _ h3
      have h4 := s6 _ _ h4
      have h5 := s6 _ _ h5
      have b1 := b1.same s6
      have b2 := b2.same s6
      have b3 := b3.same s6
      have b4 := b4.same s6
      have b5 := b5.same s6
      have B := B.same s6
      have sH := sH.trans s6
      have b6 : It K G6 xs (.ref c6) := it_int h6 (lg (by omega) (by omega)) (lg (by omega) (by omega)) (fun i0 i1 => by have := hg (((xs.length : Int) + 5)); omega)
      refine ⟨small_line (by show 6 ≤ 100000; omega), fun c7 n7 => ?_⟩
      have s7 := same_new (o := .lst [V.ref c1, V.ref c2, V.ref c3, V.ref c4, V.ref c5, V.ref c6]) n7
      have h7 : (upd G6 c7 (.lst [V.ref c1, V.ref c2, V.ref c3, V.ref c4, V.ref c5, V.ref c6])) c7 = some (.lst [V.ref c1, V.ref c2, V.ref c3, V.ref c4, V.ref c5, V.ref c6]) := upd_same
      generalize upd G6 c7 (.lst [V.ref c1, V.ref c2, V.ref c3, V.ref c4, V.ref c5, V.ref c6]) = G7 at s7 h7 ⊢
      have h1 := s7 _ _ h1
      have h2 := s7 _ _ h2
      have h3 := s7 _ _ h3
      have h4 := s7 _ _ h4
      have h5 := s7 _ _ h5
      have h6 := s7 _ _ h6
      have b1 := b1.same s7
      have b2 := b2.same s7
      have b3 := b3.same s7
      have b4 := b4.same s7
      have b5 := b5.same s7
      have b6 := b6.same s7
      have B := B.same s7
      have sH := sH.trans s7
      obtain ⟨zs, hZ, hzn, hz⟩ := B
      refine ⟨Z, c7, _, _, rfl, rfl, hZ, h7, small_line (by show zs.length + 6 ≤ 100000; omega), fun S nS => ?_⟩
      have sS := same_new (o := .lst (zs ++ [V.ref c1, V.ref c2, V.ref c3, V.ref c4, V.ref c5, V.ref c6])) nS
      refine ⟨S, rfl, sH.trans sS, ⟨_, upd_same, by rw [List.length_append]; show zs.length + 6 ≤ 26; omega, fun v hv => ?_⟩⟩
      refine It.same ?_ sS
      rcases List.mem_append.mp hv with hv | hv
      · exact hz v hv
      · simp only [List.mem_cons, List.not_mem_nil, or_false] at hv
        rcases hv with rfl | rfl | rfl | rfl | rfl | rfl
        · exact b1
        · exact b2
        · exact b3
        · exact b4
        · exact b5
        · exact b6
    clear B
    rintro _ H1 ⟨Z, rfl, s0, B⟩
    refine ⟨fun σ H1 => ∃ Z, σ = [some (.ref a), some (.int r), some (.int c), some (.int (xs.length : Int)), some (.ref Z), none] ∧ Same H H1 ∧ Its K H1 xs Z 31, ?_, ?_⟩
    · have sH := s0
      refine ⟨.ref Z, rfl, _, rfl, _, rfl, _, _, rfl, rfl, ⟨by decide, by decide, by decide⟩, _, _, rfl, rfl, small_line (by show 2 ≤ 100000; omega), fun c1 n1 => ?_⟩
      have s1 := same_new (o := .tup [V.int r, V.int (c + (10 ^ (29 : Int).toNat))]) n1
      have h1 : (upd H1 c1 (.tup [V.int r, V.int (c + (10 ^ (29 : Int).toNat))])) c1 = some (.tup [V.int r, V.int (c + (10 ^ (29 : Int).toNat))]) := upd_same
      generalize upd H1 c1 (.tup [V.int r, V.int (c + (10 ^ (29 : Int).toNat))]) = G1 at s1 h1 ⊢
      have B := B.same s1
      have sH := sH.trans s1
      have b1 : It K G1 xs (.ref c1) := it_int h1 (lg (by omega) (by omega)) (lg (by omega) (by omega)) (fun i0 i1 => by have := hg (r); omega)
      refine ⟨_, _, rfl, rfl, ⟨by decide, by decide, by decide⟩, _, rfl, small_line (by show 2 ≤ 100000; omega), fun c2 n2 => ?_⟩
      have s2 := same_new (o := .tup [V.int (10 ^ (29 : Int).toNat), V.int c]) n2
      have h2 : (upd G1 c2 (.tup [V.int (10 ^ (29 : Int).toNat), V.int c])) c2 = some (.tup [V.int (10 ^ (29 : Int).toNat), V.int c]) := upd_same
      generalize upd G1 c2 (.tup [V.int (10 ^ (29 : Int).toNat), V.int c]) = G2 at s2 h2 ⊢
      have h1 := s2 _ _ h1
      have b1 := b1.same s2
      have B := B.same s2
      have sH := sH.trans s2
      have b2 : It K G2 xs (.ref c2) := it_int h2 (lg (by omega) (by omega)) (lg (by omega) (by omega)) (fun i0 i1 => by have := hg ((10 ^ (29 : Int).toNat)); omega)
      refine ⟨_, rfl, _, _, rfl, rfl, ⟨by decide, by decide, by decide⟩, _, _, rfl, rfl, small_line (by show 2 ≤ 100000; omega), fun c3 n3 => ?_⟩
      have s3 := same_new (o := .tup [V.int r, V.int (1 - (10 ^ (29 : Int).toNat))]) n3
      have h3 : (upd G2 c3 (.tup [V.int r, V.int (1 - (10 ^ (29 : Int).toNat))])) c3 = some (.tup [V.int r, V.int (1 - (10 ^ (29 : Int).toNat))]) := upd_same
      generalize upd G2 c3 (.tup [V.int r, V.int (1 - (10 ^ (29 : Int).toNat))]) = G3 at s3 h3 ⊢
      have h1 := s3 _ _ h1
      have h2 := s3 _ _ h2
      have b1 := b1.same s3
      have b2 := b2.same s3
      have B := B.same s3
      have sH := sH.trans s3
      have b3 : It K G3 xs (.ref c3) := it_int h3 (lg (by omega) (by omega)) (lg (by omega) (by omega)) (fun i0 i1 => by have := hg (r); omega)
      refine ⟨small_line (by show 2 ≤ 100000; omega), fun c4 n4 => ?_⟩
      have s4 := same_new (o := .tup [V.int 0, V.int 20]) n4
      have h4 : (upd G3 c4 (.tup [V.int 0, V.int 20])) c4 = some (.tup [V.int 0, V.int 20]) := upd_same
      generalize upd G3 c4 (.tup [V.int 0, V.int 20]) = G4 at s4 h4 ⊢
      have h1 := s4 _ _ h1
      have h2 := s4 _ _ h2
      have h3 := s4 _ _ h3
      have b1 := b1.same s4
      have b2 := b2.same s4
      have b3 := b3.same s4
      have B := B.same s4
      have sH := sH.trans s4
      have b4 : It K G4 xs (.ref c4) := it_int h4 (lg (by omega) (by omega)) (lg (by omega) (by omega)) (fun i0 i1 => by have := hg (0); omega)
      refine ⟨small_line (by show 2 ≤ 100000; omega), fun c5 n5 => ?_⟩
      have s5 := same_new (o := .tup [V.int 20, V.int 0]) n5
      have h5 : (upd G4 c5 (.tup [V.int 20, V.int 0])) c5 = some (.tup [V.int 20, V.int 0]) := upd_same
      generalize upd G4 c5 (.tup [V.int 20, V.int 0]) = G5 at s5 h5 ⊢
      have h1 := s5 _ _ h1
      have h2 := s5 _ _ h2
      have h3 := s5 _ _ h3
      have h4 := s5 _ _ h4
      have b1 := b1.same s5
      have b2 := b2.same s5
      have b3 := b3.same s5
      have b4 := b4.same s5
      have B := B.same s5
      have sH := sH.trans s5
      have b5 : It K G5 xs (.ref c5) := it_int h5 (lg (by omega) (by omega)) (lg (by omega) (by omega)) (fun i0 i1 => by have := hg (20); omega)
      refine ⟨small_line (by show 5 ≤ 100000; omega), fun c6 n6 => ?_⟩
      have s6 := same_new (o := .lst [V.ref c1, V.ref c2, V.ref c3, V.ref c4, V.ref c5]) n6
      have h6 : (upd G5 c6 (.lst [V.ref c1, V.ref c2, V.ref c3, V.ref c4, V.ref c5])) c6 = some (.lst [V.ref c1, V.ref c2, V.ref c3, V.ref c4, V.ref c5]) := upd_same
      generalize upd G5 c6 (.lst [V.ref c1, V.ref c2, V.ref c3, V.ref c4, V.ref c5]) = G6 at s6 h6 ⊢
      have h1 := s6 _ _ h1
      have h2 := s6 _ _ h2
      have h3 := s6 _ _ h3
      have h4 := s6 _ _ h4
      have h5 := s6 _ _ h5
      have b1 := b1.same s6
      have b2 := b2.same s6
      have b3 := b3.same s6
      have b4 := b4.same s6
      have b5 := b5.same s6
      have B := B.same s6
      have sH := sH.trans s6
      obtain ⟨zs, hZ, hzn, hz⟩ := B
      refine ⟨Z, c6, _, _, rfl, rfl, hZ, h6, small_line (by show zs.length + 5 ≤ 100000; omega), fun S nS => ?_⟩
      have sS := same_new (o := .lst (zs ++ [V.ref c1, V.ref c2, V.ref c3, V.ref c4, V.ref c5])) nS
      refine ⟨S, rfl, sH.trans sS, ⟨_, upd_same, by rw [List.length_append]; show zs.length + 5 ≤ 31; omega, fun v hv => ?_⟩⟩
      refine It.same ?_ sS
      rcases List.mem_append.mp hv with hv | hv
      · exact hz v hv
      · simp only [List.mem_cons, List.not_mem_nil, or_false] at hv
        rcases hv with rfl | rfl | rfl | rfl | rfl
        · exact b1
        · exact b2
        · exact b3
        · exact b4
        · exact b5
    clear B
    rintro _ H1 ⟨Z, rfl, s0, B⟩
    refine ⟨fun σ H1 => ∃ Z, σ = [some (.ref a), some (.int r), some (.int c), some (.int (xs.length : Int)), some (.ref Z), none] ∧ Same H H1 ∧ Its K H1 xs Z 40, ?_, ?_⟩
    · have sH := s0
      refine ⟨.ref Z, rfl, _, rfl, small_line (by show 1 ≤ 100000; omega), fun c1 n1 => ?_⟩
      have s1 := same_new (o := .tup [V.int r]) n1
      have h1 : (upd H1 c1 (.tup [V.int r])) c1 = some (.tup [V.int r]) := upd_same
      generalize upd H1 c1 (.tup [V.int r]) = G1 at s1 h1 ⊢
      have B := B.same s1
      have sH := sH.trans s1
      have b1 : It K G1 xs (.ref c1) := it_len h1 (by show 1 ≠ 2; decide) (by show 1 ≤ 5; decide) (one1 (elP_int (lg (by omega) (by omega))))
      refine ⟨_, rfl, _, rfl, small_line (by show 3 ≤ 100000; omega), fun c2 n2 => ?_⟩
      have s2 := same_new (o := .tup [V.int r, V.int c, V.int 0]) n2
      have h2 : (upd G1 c2 (.tup [V.int r, V.int c, V.int 0])) c2 = some (.tup [V.int r, V.int c, V.int 0]) := upd_same
      generalize upd G1 c2 (.tup [V.int r, V.int c, V.int 0]) = G2 at s2 h2 ⊢
      have h1 := s2 _ _ h1
      have b1 := b1.same s2
      have B := B.same s2
      have sH := sH.trans s2
      have b2 : It K G2 xs (.ref c2) := it_len h2 (by show 3 ≠ 2; decide) (by show 3 ≤ 5; decide) (three1 (elP_int (lg (by omega) (by omega))) (elP_int (lg (by omega) (by omega))) (elP_int (lg (by omega) (by omega))))
      refine ⟨_, rfl, _, rfl, small_line (by show 2 ≤ 100000; omega), fun c3 n3 => ?_⟩
      have s3 := same_new (o := .lst [V.int r, V.int c]) n3
      have h3 : (upd G2 c3 (.lst [V.int r, V.int c])) c3 = some (.lst [V.int r, V.int c]) := upd_same
      generalize upd G2 c3 (.lst [V.int r, V.int c]) = G3 at s3 h3 ⊢
      have h1 := s3 _ _ h1
      have h2 := s3 _ _ h2
      have b1 := b1.same s3
      have b2 := b2.same s3
      have B := B.same s3
      have sH := sH.trans s3
      have b3 : It K G3 xs (.ref c3) := ⟨.inl (.lst h3), shw_lst h3 (by show 2 ≤ 5; omega) (two (elP_int (lg (by omega) (by omega))) (elP_int (lg (by omega) (by omega))))⟩
      have b4 : It K G3 xs (.int r) := ⟨.inl (.int _), shw_el (elP_int (lg (by omega) (by omega)))⟩
      refine ⟨_, rfl, Nat.zero_le _, fun c4 n4 => ?_⟩
      have s4 := same_new (o := .tup []) n4
      have h4 : (upd G3 c4 (.tup [])) c4 = some (.tup []) := upd_same
      generalize upd G3 c4 (.tup []) = G4 at s4 h4 ⊢
      have h1 := s4 _ _ h1
      have h2 := s4 _ _ h2
      have h3 := s4 _ _ h3
      have b1 := b1.same s4
      have b2 := b2.same s4
      have b3 := b3.same s4
      have b4 := b4.same s4
      have B := B.same s4
      have sH := sH.trans s4
      have b5 : It K G4 xs (.ref c4) := it_len h4 (by decide) (by decide) (fun _ z => (nomatch z))
      refine ⟨small_line (by show 2 ≤ 100000; omega), fun c5 n5 => ?_⟩
      have s5 := same_new (o := .tup [V.bl false, V.int 0]) n5
      have h5 : (upd G4 c5 (.tup [V.bl false, V.int 0])) c5 = some (.tup [V.bl false, V.int 0]) := upd_same
      generalize upd G4 c5 (.tup [V.bl false, V.int 0]) = G5 at s5 h5 ⊢
      have h1 := s5 _ _ h1
      have h2 := s5 _ _ h2
      have h3 := s5 _ _ h3
      have h4 := s5 _ _ h4
      have b1 := b1.same s5
      have b2 := b2.same s5
      have b3 := b3.same s5
      have b4 := b4.same s5
      have b5 := b5.same s5
      have B := B.same s5
      have sH := sH.trans s5
      have b6 : It K G5 xs (.ref c5) := it_pair h5 (.inr (.bl _)) (.inl ⟨_, rfl⟩) (elP_bl _) (elP_int (lg (by omega) (by omega))) (fun i j e1 e2 => by cases e1)
      refine ⟨small_line (by show 2 ≤ 100000; omega), fun c6 n6 => ?_⟩
      have s6 := same_new (o := .tup [V.int 0, V.bl false]) n6
      have h6 : (upd G5 c6 (.tup [V.int 0, V.bl false])) c6 = some (.tup [V.int 0, V.bl false]) := upd_same
      generalize upd G5 c6 (.tup [V.int 0, V.bl false]) = G6 at s6 h6 ⊢
      have h1 := s6 _ _ h1
      have h2 := s6 _ _ h2
      have h3 := s6 _ _ h3
      have h4 := s6 _ _ h4
      have h5 := s6 _ _ h5
      have b1 := b1.same s6
      have b2 := b2.same s6
      have b3 := b3.same s6
      have b4 := b4.same s6
      have b5 := b5.same s6
      have b6 := b6.same s6
      have B := B.same s6
      have sH := sH.trans s6
      have b7 : It K G6 xs (.ref c6) := it_pair h6 (.inl ⟨_, rfl⟩) (.inr (.bl _)) (elP_int (lg (by omega) (by omega))) (elP_bl _) (fun i j e1 e2 => by cases e2)
      refine ⟨small_line (by show 2 ≤ 100000; omega), fun c7 n7 => ?_⟩
      have s7 := same_new (o := .tup [V.bl true, V.int 0]) n7
      have h7 : (upd G6 c7 (.tup [V.bl true, V.int 0])) c7 = some (.tup [V.bl true, V.int 0]) := upd_same
      generalize upd G6 c7 (.tup [V.bl true, V.int 0]) = G7 at s7 h7 ⊢
      have h1 := s7 _ _ h1
      have h2 := s7 _ _ h2
      have h3 := s7 _ _ h3
      have h4 := s7 _ _ h4
      have h5 := s7 _ _ h5
      have h6 := s7 _ _ h6
      have b1 := b1.same s7
      have b2 := b2.same s7
      have b3 := b3.same s7
      have b4 := b4.same s7
      have b5 := b5.same s7
      have b6 := b6.same s7
      have b7 := b7.same s7
      have B := B.same s7
      have sH := sH.trans s7
      have b8 : It K G7 xs (.ref c7) := it_pair h7 (.inr (.bl _)) (.inl ⟨_, rfl⟩) (elP_bl _) (elP_int (lg (by omega) (by omega))) (fun i j e1 e2 => by cases e1)
      refine ⟨small_line (by show 2 ≤ 100000; omega), fun c8 n8 => ?_⟩
      have s8 := same_new (o := .tup [V.int 0, V.bl true]) n8
      have h8 : (upd G7 c8 (.tup [V.int 0, V.bl true])) c8 = some (.tup [V.int 0, V.bl true]) := upd_same
      generalize upd G7 c8 (.tup [V.int 0, V.bl true]) = G8 at s8 h8 ⊢
      have h1 := s8 _ _ h1
      have h2 := s8 _ _ h2
      have h3 := s8 _ _ h3
      have h4 := s8 _ _ h4
      have h5 := s8 _ _ h5
      have h6 := s8 _ _ h6
      have h7 := s8 _ _ h7
      have b1 := b1.same s8
      have b2 := b2.same s8
      have b3 := b3.same s8
      have b4 := b4.same s8
      have b5 := b5.same s8
      have b6 := b6.same s8
      have b7 := b7.same s8
      have b8 := b8.same s8
      have B := B.same s8
      have sH := sH.trans s8
      have b9 : It K G8 xs (.ref c8) := it_pair h8 (.inl ⟨_, rfl⟩) (.inr (.bl _)) (elP_int (lg (by omega) (by omega))) (elP_bl _) (fun i j e1 e2 => by cases e2)
      refine ⟨small_line (by show 9 ≤ 100000; omega), fun c9 n9 => ?_⟩
      have s9 := same_new (o := .lst [V.ref c1, V.ref c2, V.ref c3, V.int r, V.ref c4, V.ref c5, V.ref c6, V.ref c7, V.ref c8]) n9
      have h9 : (upd G8 c9 (.lst [V.ref c1, V.ref c2, V.ref c3, V.int r, V.ref c4, V.ref c5, V.ref c6, V.ref c7, V.ref c8])) c9 = some (.lst [V.ref c1, V.ref c2, V.ref c3, V.int r, V.ref c4, V.ref c5, V.ref c6, V.ref c7, V.ref c8]) := upd_same
      generalize upd G8 c9 (.lst [V.ref c1, V.ref c2, V.ref c3, V.int r, V.ref c4, V.ref c5, V.ref c6, V.ref c7, V.ref c8]) = G9 at s9 h9 ⊢
      have h1 := s9 _ _ h1
      have h2 := s9 _ _ h2
      have h3 := s9 _ _ h3
      have h4 := s9 _ _ h4
      have h5 := s9 _ _ h5
      have h6 := s9 _ _ h6
      have h7 := s9 _ _ h7
      have h8 := s9 _ _ h8
      have b1 := b1.same s9
      have b2 := b2.same s9
      have b3 := b3.same s9
      have b4 := b4.same s9
      have b5 := b5.same s9
      have b6 := b6.same s9
      have b7 := b7.same s9
      have b8 := b8.same s9
      have b9 := b9.same s9
      have B := B.same s9
      have sH := sH.trans s9
      obtain ⟨zs, hZ, hzn, hz⟩ := B
      refine ⟨Z, c9, _, _, rfl, rfl, hZ, h9, small_line (by show zs.length + 9 ≤ 100000; omega), fun S nS => ?_⟩
      have sS := same_new (o := .lst (zs ++ [V.ref c1, V.ref c2, V.ref c3, V.int r, V.ref c4, V.ref c5, V.ref c6, V.ref c7, V.ref c8])) nS
      refine ⟨S, rfl, sH.trans sS, ⟨_, upd_same, by rw [List.length_append]; show zs.length + 9 ≤ 40; omega, fun v hv => ?_⟩⟩
      refine It.same ?_ sS
      rcases List.mem_append.mp hv with hv | hv
      · exact hz v hv
      · simp only [List.mem_cons, List.not_mem_nil, or_false] at hv
        rcases hv with rfl | rfl | rfl | rfl | rfl | rfl | rfl | rfl | rfl
        · exact b1
        · exact b2
        · exact b3
        · exact b4
        · exact b5
        · exact b6
        · exact b7
        · exact b8
        · exact b9
    clear B
    rintro _ H1 ⟨Z, rfl, s0, B⟩
    refine ⟨fun σ H1 => ∃ Z, σ = [some (.ref a), some (.int r), some (.int c), some (.int (xs.length : Int)), some (.ref Z), none] ∧ Same H H1 ∧ Its K H1 xs Z 46, ?_, ?_⟩
    · have sH := s0
      refine ⟨.ref Z, rfl, small_line (by show 2 ≤ 100000; omega), fun c1 n1 => ?_⟩
      have s1 := same_new (o := .tup [V.bl false, V.bl false]) n1
      have h1 : (upd H1 c1 (.tup [V.bl false, V.bl false])) c1 = some (.tup [V.bl false, V.bl false]) := upd_same
      generalize upd H1 c1 (.tup [V.bl false, V.bl false]) = G1 at s1 h1 ⊢
      have B := B.same s1
      have sH := sH.trans s1
      have b1 : It K G1 xs (.ref c1) := it_pair h1 (.inr (.bl _)) (.inr (.bl _)) (elP_bl _) (elP_bl _) (fun i j e1 e2 => by cases e1)
      refine ⟨_, rfl, small_line (by show 2 ≤ 100000; omega), fun c2 n2 => ?_⟩
      have s2 := same_new (o := .tup [V.non, V.int c]) n2
      have h2 : (upd G1 c2 (.tup [V.non, V.int c])) c2 = some (.tup [V.non, V.int c]) := upd_same
      generalize upd G1 c2 (.tup [V.non, V.int c]) = G2 at s2 h2 ⊢
      have h1 := s2 _ _ h1
      have b1 := b1.same s2
      have B := B.same s2
      have sH := sH.trans s2
      have b2 : It K G2 xs (.ref c2) := it_pair h2 (.inr .non) (.inl ⟨_, rfl⟩) (elP_non) (elP_int (lg (by omega) (by omega))) (fun i j e1 e2 => by cases e1)
      refine ⟨_, rfl, small_line (by show 2 ≤ 100000; omega), fun c3 n3 => ?_⟩
      have s3 := same_new (o := .tup [V.int r, V.non]) n3
      have h3 : (upd G2 c3 (.tup [V.int r, V.non])) c3 = some (.tup [V.int r, V.non]) := upd_same
      generalize upd G2 c3 (.tup [V.int r, V.non]) = G3 at s3 h3 ⊢
      have h1 := s3 _ _ h1
      have h2 := s3 _ _ h2
      have b1 := b1.same s3
      have b2 := b2.same s3
      have B := B.same s3
      have sH := sH.trans s3
      have b3 : It K G3 xs (.ref c3) := it_pair h3 (.inl ⟨_, rfl⟩) (.inr .non) (elP_int (lg (by omega) (by omega))) (elP_non) (fun i j e1 e2 => by cases e2)
      refine ⟨_, rfl, _, rfl, lg (by omega) (by omega), _, rfl, small_line (by show 2 ≤ 100000; omega), fun c4 n4 => ?_⟩
      have s4 := same_new (o := .tup [V.str (toString r), V.int c]) n4
      have h4 : (upd G3 c4 (.tup [V.str (toString r), V.int c])) c4 = some (.tup [V.str (toString r), V.int c]) := upd_same
      generalize upd G3 c4 (.tup [V.str (toString r), V.int c]) = G4 at s4 h4 ⊢
      have h1 := s4 _ _ h1
      have h2 := s4 _ _ h2
      have h3 := s4 _ _ h3
      have b1 := b1.same s4
      have b2 := b2.same s4
      have b3 := b3.same s4
      have B := B.same s4
      have sH := sH.trans s4
      have b4 : It K G4 xs (.ref c4) := it_pair h4 (.inr (.str _)) (.inl ⟨_, rfl⟩) (elP_str (str_small (by omega) (by omega))) (elP_int (lg (by omega) (by omega))) (fun i j e1 e2 => by cases e1)
      refine ⟨_, rfl, _, rfl, _, rfl, lg (by omega) (by omega), small_line (by show 2 ≤ 100000; omega), fun c5 n5 => ?_⟩
      have s5 := same_new (o := .tup [V.int r, V.str (toString c)]) n5
      have h5 : (upd G4 c5 (.tup [V.int r, V.str (toString c)])) c5 = some (.tup [V.int r, V.str (toString c)]) := upd_same
      generalize upd G4 c5 (.tup [V.int r, V.str (toString c)]) = G5 at s5 h5 ⊢
      have h1 := s5 _ _ h1
      have h2 := s5 _ _ h2
      have h3 := s5 _ _ h3
      have h4 := s5 _ _ h4
      have b1 := b1.same s5
      have b2 := b2.same s5
      have b3 := b3.same s5
      have b4 := b4.same s5
      have B := B.same s5
      have sH := sH.trans s5
      have b5 : It K G5 xs (.ref c5) := it_pair h5 (.inl ⟨_, rfl⟩) (.inr (.str _)) (elP_int (lg (by omega) (by omega))) (elP_str (str_small (by omega) (by omega))) (fun i j e1 e2 => by cases e2)
      refine ⟨_, rfl, small_line (by show 1 ≤ 100000; omega), fun c6 n6 => ?_⟩
      have s6 := same_new (o := .tup [V.int r]) n6
      have h6 : (upd G5 c6 (.tup [V.int r])) c6 = some (.tup [V.int r]) := upd_same
      generalize upd G5 c6 (.tup [V.int r]) = G6 at s6 h6 ⊢
      have h1 := s6 _ _ h1
      have h2 := s6 _ _ h2
      have h3 := s6 _ _ h3
      have h4 := s6 _ _ h4
      have h5 := s6 _ _ h5
      have b1 := b1.same s6
      have b2 := b2.same s6
      have b3 := b3.same s6
      have b4 := b4.same s6
      have b5 := b5.same s6
      have B := B.same s6
      have sH := sH.trans s6
      refine ⟨_, rfl, small_line (by show 2 ≤ 100000; omega), fun c7 n7 => ?_⟩
      have s7 := same_new (o := .tup [V.ref c6, V.int c]) n7
      have h7 : (upd G6 c7 (.tup [V.ref c6, V.int c])) c7 = some (.tup [V.ref c6, V.int c]) := upd_same
      generalize upd G6 c7 (.tup [V.ref c6, V.int c]) = G7 at s7 h7 ⊢
      have h1 := s7 _ _ h1
      have h2 := s7 _ _ h2
      have h3 := s7 _ _ h3
      have h4 := s7 _ _ h4
      have h5 := s7 _ _ h5
      have h6 := s7 _ _ h6
      have b1 := b1.same s7
      have b2 := b2.same s7
      have b3 := b3.same s7
      have b4 := b4.same s7
      have b5 := b5.same s7
      have B := B.same s7
      have sH := sH.trans s7
      have b6 : It K G7 xs (.ref c7) := it_pair h7 (.inr (.tup h6)) (.inl ⟨_, rfl⟩) (elP_tupI (xs := [r]) h6 (by show 1 ≤ 3; omega) (by intro x m; simp only [List.mem_cons, List.not_mem_nil, or_false] at m; exact lg (by omega) (by omega))) (elP_int (lg (by omega) (by omega))) (fun i j e1 e2 => by cases e1)
      refine ⟨small_line (by show 6 ≤ 100000; omega), fun c8 n8 => ?_⟩
      have s8 := same_new (o := .lst [V.ref c1, V.ref c2, V.ref c3, V.ref c4, V.ref c5, V.ref c7]) n8
      have h8 : (upd G7 c8 (.lst [V.ref c1, V.ref c2, V.ref c3, V.ref c4, V.ref c5, V.ref c7])) c8 = some (.lst [V.ref c1, V.ref c2, V.ref c3, V.ref c4, V.ref c5, V.ref c7]) := upd_same
      generalize upd G7 c8 (.lst [V.ref c1, V.ref c2, V.ref c3, V.ref c4, V.ref c5, V.ref c7]) = G8 at s8 h8 ⊢
      have h1 := s8 _ _ h1
      have h2 := s8 _ _ h2
      have h3 := s8 _ _ h3
      have h4 := s8 _ _ h4
      have h5 := s8 _ _ h5
      have h6 := s8 _ _ h6
      have h7 := s8 _ _ h7
      have b1 := b1.same s8
      have b2 := b2.same s8
      have b3 := b3.same s8
      have b4 := b4.same s8
      have b5 := b5.same s8
      have b6 := b6.same s8
      have B := B.same s8
      have sH := sH.trans s8
      obtain ⟨zs, hZ, hzn, hz⟩ := B
      refine ⟨Z, c8, _, _, rfl, rfl, hZ, h8, small_line (by show zs.length + 6 ≤ 100000; omega), fun S nS => ?_⟩
      have sS := same_new (o := .lst (zs ++ [V.ref c1, V.ref c2, V.ref c3, V.ref c4, V.ref c5, V.ref c7])) nS
      refine ⟨S, rfl, sH.trans sS, ⟨_, upd_same, by rw [List.length_append]; show zs.length + 6 ≤ 46; omega, fun v hv => ?_⟩⟩
      refine It.same ?_ sS
      rcases List.mem_append.mp hv with hv | hv
      · exact hz v hv
      · simp only [List.mem_cons, List.not_mem_nil, or_false] at hv
        rcases hv with rfl | rfl | rfl | rfl | rfl | rfl
        · exact b1
        · exact b2
        · exact b3
        · exact b4
        · exact b5
        · exact b6
    clear B
    rintro _ H1 ⟨Z, rfl, s0, B⟩
    refine ⟨fun σ H1 => ∃ Z, σ = [some (.ref a), some (.int r), some (.int c), some (.int (xs.length : Int)), some (.ref Z), none] ∧ Same H H1 ∧ Its K H1 xs Z 57, ?_, ?_⟩
    · have sH := s0
      refine ⟨.ref Z, rfl, _, rfl, _, rfl, small_line (by show 1 ≤ 100000; omega), fun c1 n1 => ?_⟩
      have s1 := same_new (o := .lst [V.int c]) n1
      have h1 : (upd H1 c1 (.lst [V.int c])) c1 = some (.lst [V.int c]) := upd_same
      generalize upd H1 c1 (.lst [V.int c]) = G1 at s1 h1 ⊢
      have B := B.same s1
      have sH := sH.trans s1
      refine ⟨small_line (by show 2 ≤ 100000; omega), fun c2 n2 => ?_⟩
      have s2 := same_new (o := .tup [V.int r, V.ref c1]) n2
      have h2 : (upd G1 c2 (.tup [V.int r, V.ref c1])) c2 = some (.tup [V.int r, V.ref c1]) := upd_same
      generalize upd G1 c2 (.tup [V.int r, V.ref c1]) = G2 at s2 h2 ⊢
      have h1 := s2 _ _ h1
      have B := B.same s2
      have sH := sH.trans s2
      have b1 : It K G2 xs (.ref c2) := it_pair h2 (.inl ⟨_, rfl⟩) (.inr (.lst h1)) (elP_int (lg (by omega) (by omega))) (elP_lstI (xs := [c]) h1 (by show 1 ≤ 3; omega) (by intro x m; simp only [List.mem_cons, List.not_mem_nil, or_false] at m; exact lg (by omega) (by omega))) (fun i j e1 e2 => by cases e2)
      refine ⟨_, rfl, fun c3 n3 => ?_⟩
      have s3 := same_new (o := .dK []) n3
      have h3 : (upd G2 c3 (.dK [])) c3 = some (.dK []) := upd_same
      generalize upd G2 c3 (.dK []) = G3 at s3 h3 ⊢
      have h1 := s3 _ _ h1
      have h2 := s3 _ _ h2
      have b1 := b1.same s3
      have B := B.same s3
      have sH := sH.trans s3
      refine ⟨small_line (by show 2 ≤ 100000; omega), fun c4 n4 => ?_⟩
      have s4 := same_new (o := .tup [V.int r, V.ref c3]) n4
      have h4 : (upd G3 c4 (.tup [V.int r, V.ref c3])) c4 = some (.tup [V.int r, V.ref c3]) := upd_same
      generalize upd G3 c4 (.tup [V.int r, V.ref c3]) = G4 at s4 h4 ⊢
      have h1 := s4 _ _ h1
      have h2 := s4 _ _ h2
      have h3 := s4 _ _ h3
      have b1 := b1.same s4
      have B := B.same s4
      have sH := sH.trans s4
      have b2 : It K G4 xs (.ref c4) := it_pairD h4 (.inl ⟨_, rfl⟩) (.inr (.dK h3)) (elD_int (lg (by omega) (by omega))) (elD_emp h3) (fun i j e1 e2 => by cases e2)
      have b3 : It K G4 xs (.non) := ⟨.inl (.non), shw_el (elP_non)⟩
      have b4 : It K G4 xs (.bl true) := ⟨.inl (.bl _), shw_el (elP_bl _)⟩
      have b5 : It K G4 xs (.bl false) := ⟨.inl (.bl _), shw_el (elP_bl _)⟩
      have b6 : It K G4 xs (.str "") := ⟨.inl (.str _), shw_el (elP_str (by decide +kernel))⟩
      have b7 : It K G4 xs (.str "00") := ⟨.inl (.str _), shw_el (elP_str (by decide +kernel))⟩
      have b8 : It K G4 xs (.str "0,0") := ⟨.inl (.str _), shw_el (elP_str (by decide +kernel))⟩
      refine fun c5 n5 => ?_
      have s5 := same_new (o := .dK []) n5
      have h5 : (upd G4 c5 (.dK [])) c5 = some (.dK []) := upd_same
      generalize upd G4 c5 (.dK []) = G5 at s5 h5 ⊢
      have h1 := s5 _ _ h1
      have h2 := s5 _ _ h2
      have h3 := s5 _ _ h3
      have h4 := s5 _ _ h4
      have b1 := b1.same s5
      have b2 := b2.same s5
      have b3 := b3.same s5
      have b4 := b4.same s5
      have b5 := b5.same s5
      have b6 := b6.same s5
      have b7 := b7.same s5
      have b8 := b8.same s5
      have B := B.same s5
      have sH := sH.trans s5
      have b9 : It K G5 xs (.ref c5) := ⟨.inl (.dK h5), shw_elD (elD_emp h5)⟩
      refine fun c6 n6 => ⟨_, rfl, _, rfl, upd_same, [(.inl r, .int c)], rfl, (by show 1 ≤ 15; decide), ?_⟩
      rw [upd_over (o' := .dK (mergeK [] [(Sum.inl r, V.int c)])) (o2 := .dK [(Sum.inl r, V.int c)]) rfl]
      have s6 := same_new (o := .dK [(Sum.inl r, V.int c)]) n6
      have h6 : (upd G5 c6 (.dK [(Sum.inl r, V.int c)])) c6 = some (.dK [(Sum.inl r, V.int c)]) := upd_same
      generalize upd G5 c6 (.dK [(Sum.inl r, V.int c)]) = G6 at s6 h6 ⊢
      have h1 := s6 _ _ h1
      have h2 := s6 _ _ h2
      have h3 := s6 _ _ h3
      have h4 := s6 _ _ h4
      have h5 := s6 _ _ h5
      have b1 := b1.same s6
      have b2 := b2.same s6
      have b3 := b3.same s6
      have b4 := b4.same s6
      have b5 := b5.same s6
      have b6 := b6.same s6
      have b7 := b7.same s6
      have b8 := b8.same s6
      have b9 := b9.same s6
      have B := B.same s6
      have sH := sH.trans s6
      have b10 : It K G6 xs (.ref c6) := ⟨.inl (.dK h6), shw_elD (elD_one h6 (lg (by omega) (by omega)) (lg (by omega) (by omega)))⟩
      refine ⟨_, rfl, _, rfl, small_line (by show 2 ≤ 100000; omega), fun c7 n7 => ?_⟩
      have s7 := same_new (o := .tup [V.int r, V.int c]) n7
      have h7 : (upd G6 c7 (.tup [V.int r, V.int c])) c7 = some (.tup [V.int r, V.int c]) := upd_same
      generalize upd G6 c7 (.tup [V.int r, V.int c]) = G7 at s7 h7 ⊢
      have h1 := s7 _ _ h1
      have h2 := s7 _ _ h2
      have h3 := s7 _ _ h3
      have h4 := s7 _ _ h4
      have h5 := s7 _ _ h5
      have h6 := s7 _ _ h6
      have b1 := b1.same s7
      have b2 := b2.same s7
      have b3 := b3.same s7
      have b4 := b4.same s7
      have b5 := b5.same s7
      have b6 := b6.same s7
      have b7 := b7.same s7
      have b8 := b8.same s7
      have b9 := b9.same s7
      have b10 := b10.same s7
      have B := B.same s7
      have sH := sH.trans s7
      refine ⟨small_line (by show 1 ≤ 100000; omega), fun c8 n8 => ?_⟩
      have s8 := same_new (o := .lst [V.ref c7]) n8
      have h8 : (upd G7 c8 (.lst [V.ref c7])) c8 = some (.lst [V.ref c7]) := upd_same
      generalize upd G7 c8 (.lst [V.ref c7]) = G8 at s8 h8 ⊢
      have h1 := s8 _ _ h1
      have h2 := s8 _ _ h2
      have h3 := s8 _ _ h3
      have h4 := s8 _ _ h4
      have h5 := s8 _ _ h5
      have h6 := s8 _ _ h6
      have h7 := s8 _ _ h7
      have b1 := b1.same s8
      have b2 := b2.same s8
      have b3 := b3.same s8
      have b4 := b4.same s8
      have b5 := b5.same s8
      have b6 := b6.same s8
      have b7 := b7.same s8
      have b8 := b8.same s8
      have b9 := b9.same s8
      have b10 := b10.same s8
      have B := B.same s8
      have sH := sH.trans s8
      have b11 : It K G8 xs (.ref c8) := ⟨.inl (.lst h8), shw_lst h8 (by show 1 ≤ 5; omega) (one1 (elP_tupI (xs := [r, c]) h7 (by show 2 ≤ 3; omega) (by intro x m; simp only [List.mem_cons, List.not_mem_nil, or_false] at m; exact lg (by omega) (by omega))))⟩
      refine ⟨small_line (by show 11 ≤ 100000; omega), fun c9 n9 => ?_⟩
      have s9 := same_new (o := .lst [V.ref c2, V.ref c4, V.non, V.bl true, V.bl false, V.str "", V.str "00", V.str "0,0", V.ref c5, V.ref c6, V.ref c8]) n9
      have h9 : (upd G8 c9 (.lst [V.ref c2, V.ref c4, V.non, V.bl true, V.bl false, V.str "", V.str "00", V.str "0,0", V.ref c5, V.ref c6, V.ref c8])) c9 = some (.lst [V.ref c2, V.ref c4, V.non, V.bl true, V.bl false, V.str "", V.str "00", V.str "0,0", V.ref c5, V.ref c6, V.ref c8]) := upd_same
      generalize upd G8 c9 (.lst [V.ref c2, V.ref c4, V.non, V.bl true, V.bl false, V.str "", V.str "00", V.str "0,0", V.ref c5, V.ref c6, V.ref c8]) = G9 at s9 h9 ⊢
      have h1 := s9 _ _ h1
      have h2 := s9 _ _ h2
      have h3 := s9 _ _ h3
      have h4 := s9 _ _ h4
      have h5 := s9 _ _ h5
      have h6 := s9 _ _ h6
      have h7 := s9 _ _ h7
      have h8 := s9 _ _ h8
      have b1 := b1.same s9
      have b2 := b2.same s9
      have b3 := b3.same s9
      have b4 := b4.same s9
      have b5 := b5.same s9
      have b6 := b6.same s9
      have b7 := b7.same s9
      have b8 := b8.same s9
      have b9 := b9.same s9
      have b10 := b10.same s9
      have b11 := b11.same s9
      have B := B.same s9
      have sH := sH.trans s9
      obtain ⟨zs, hZ, hzn, hz⟩ := B
      refine ⟨Z, c9, _, _, rfl, rfl, hZ, h9, small_line (by show zs.length + 11 ≤ 100000; omega), fun S nS => ?_⟩
      have sS := same_new (o := .lst (zs ++ [V.ref c2, V.ref c4, V.non, V.bl true, V.bl false, V.str "", V.str "00", V.str "0,0", V.ref c5, V.ref c6, V.ref c8])) nS
      refine ⟨S, rfl, sH.trans sS, ⟨_, upd_same, by rw [List.length_append]; show zs.length + 11 ≤ 57; omega, fun v hv => ?_⟩⟩
      refine It.same ?_ sS
      rcases List.mem_append.mp hv with hv | hv
      · exact hz v hv
      · simp only [List.mem_cons, List.not_mem_nil, or_false] at hv
        rcases hv with rfl | rfl | rfl | rfl | rfl | rfl | rfl | rfl | rfl | rfl | rfl
        · exact b1
        · exact b2
        · exact b3
        · exact b4
        · exact b5
        · exact b6
        · exact b7
        · exact b8
        · exact b9
        · exact b10
        · exact b11
    clear B
    rintro _ H1 ⟨Z, rfl, s0, B⟩
    have sH := s0
    refine ⟨.ref Z, rfl, _, rfl, _, rfl, small_line (by show 2 ≤ 100000; omega), fun c1 n1 => ?_⟩
    have s1 := same_new (o := .tup [V.int r, V.int c]) n1
    have h1 : (upd H1 c1 (.tup [V.int r, V.int c])) c1 = some (.tup [V.int r, V.int c]) := upd_same
    generalize upd H1 c1 (.tup [V.int r, V.int c]) = G1 at s1 h1 ⊢
    have B := B.same s1
    have sH := sH.trans s1
    refine ⟨small_line (by show 1 ≤ 100000; omega), fun c2 n2 => ?_⟩
    have s2 := same_new (o := .tup [V.ref c1]) n2
    have h2 : (upd G1 c2 (.tup [V.ref c1])) c2 = some (.tup [V.ref c1]) := upd_same
    generalize upd G1 c2 (.tup [V.ref c1]) = G2 at s2 h2 ⊢
    have h1 := s2 _ _ h1
    have B := B.same s2
    have sH := sH.trans s2
    have b1 : It K G2 xs (.ref c2) := it_len h2 (by show 1 ≠ 2; decide) (by show 1 ≤ 5; decide) (one1 (elP_tupI (xs := [r, c]) h1 (by show 2 ≤ 3; omega) (by intro x m; simp only [List.mem_cons, List.not_mem_nil, or_false] at m; exact lg (by omega) (by omega))))
    refine ⟨_, rfl, _, rfl, small_line (by show 2 ≤ 100000; omega), fun c3 n3 => ?_⟩
    have s3 := same_new (o := .tup [V.int r, V.int c]) n3
    have h3 : (upd G2 c3 (.tup [V.int r, V.int c])) c3 = some (.tup [V.int r, V.int c]) := upd_same
    generalize upd G2 c3 (.tup [V.int r, V.int c]) = G3 at s3 h3 ⊢
    have h1 := s3 _ _ h1
    have h2 := s3 _ _ h2
    have b1 := b1.same s3
    have B := B.same s3
    have sH := sH.trans s3
    refine ⟨_, rfl, _, rfl, small_line (by show 2 ≤ 100000; omega), fun c4 n4 => ?_⟩
    have s4 := same_new (o := .tup [V.int r, V.int c]) n4
    have h4 : (upd G3 c4 (.tup [V.int r, V.int c])) c4 = some (.tup [V.int r, V.int c]) := upd_same
    generalize upd G3 c4 (.tup [V.int r, V.int c]) = G4 at s4 h4 ⊢
    have h1 := s4 _ _ h1
    have h2 := s4 _ _ h2
    have h3 := s4 _ _ h3
    have b1 := b1.same s4
    have B := B.same s4
    have sH := sH.trans s4
    refine ⟨small_line (by show 2 ≤ 100000; omega), fun c5 n5 => ?_⟩
    have s5 := same_new (o := .tup [V.ref c3, V.ref c4]) n5
    have h5 : (upd G4 c5 (.tup [V.ref c3, V.ref c4])) c5 = some (.tup [V.ref c3, V.ref c4]) := upd_same
    generalize upd G4 c5 (.tup [V.ref c3, V.ref c4]) = G5 at s5 h5 ⊢
    have h1 := s5 _ _ h1
    have h2 := s5 _ _ h2
    have h3 := s5 _ _ h3
    have h4 := s5 _ _ h4
    have b1 := b1.same s5
    have B := B.same s5
    have sH := sH.trans s5
    have b2 : It K G5 xs (.ref c5) := it_pair h5 (.inr (.tup h3)) (.inr (.tup h4)) (elP_tupI (xs := [r, c]) h3 (by show 2 ≤ 3; omega) (by intro x m; simp only [List.mem_cons, List.not_mem_nil, or_false] at m; exact lg (by omega) (by omega))) (elP_tupI (xs := [r, c]) h4 (by show 2 ≤ 3; omega) (by intro x m; simp only [List.mem_cons, List.not_mem_nil, or_false] at m; exact lg (by omega) (by omega))) (fun i j e1 e2 => by cases e1)
    refine ⟨_, rfl, _, rfl, _, rfl, small_line (by show 2 ≤ 100000; omega), fun c6 n6 => ?_⟩
    have s6 := same_new (o := .tup [V.int c, V.int c]) n6
    have h6 : (upd G5 c6 (.tup [V.int c, V.int c])) c6 = some (.tup [V.int c, V.int c]) := upd_same
    generalize upd G5 c6 (.tup [V.int c, V.int c]) = G6 at s6 h6 ⊢
    have h1 := s6 _ _ h1
    have h2 := s6 _ _ h2
    have h3 := s6 _ _ h3
    have h4 := s6 _ _ h4
    have h5 := s6 _ _ h5
    have b1 := b1.same s6
    have b2 := b2.same s6
    have B := B.same s6
    have sH := sH.trans s6
    refine ⟨small_line (by show 2 ≤ 100000; omega), fun c7 n7 => ?_⟩
    have s7 := same_new (o := .tup [V.int r, V.ref c6]) n7
    have h7 : (upd G6 c7 (.tup [V.int r, V.ref c6])) c7 = some (.tup [V.int r, V.ref c6]) := upd_same
    generalize upd G6 c7 (.tup [V.int r, V.ref c6]) = G7 at s7 h7 ⊢
    have h1 := s7 _ _ h1
    have h2 := s7 _ _ h2
    have h3 := s7 _ _ h3
    have h4 := s7 _ _ h4
    have h5 := s7 _ _ h5
    have h6 := s7 _ _ h6
    have b1 := b1.same s7
    have b2 := b2.same s7
    have B := B.same s7
    have sH := sH.trans s7
    have b3 : It K G7 xs (.ref c7) := it_pair h7 (.inl ⟨_, rfl⟩) (.inr (.tup h6)) (elP_int (lg (by omega) (by omega))) (elP_tupI (xs := [c, c]) h6 (by show 2 ≤ 3; omega) (by intro x m; simp only [List.mem_cons, List.not_mem_nil, or_false] at m; exact lg (by omega) (by omega))) (fun i j e1 e2 => by cases e2)
    refine fun c8 n8 => ?_
    have s8 := same_new (o := .dK []) n8
    have h8 : (upd G7 c8 (.dK [])) c8 = some (.dK []) := upd_same
    generalize upd G7 c8 (.dK []) = G8 at s8 h8 ⊢
    have h1 := s8 _ _ h1
    have h2 := s8 _ _ h2
    have h3 := s8 _ _ h3
    have h4 := s8 _ _ h4
    have h5 := s8 _ _ h5
    have h6 := s8 _ _ h6
    have h7 := s8 _ _ h7
    have b1 := b1.same s8
    have b2 := b2.same s8
    have b3 := b3.same s8
    have B := B.same s8
    have sH := sH.trans s8
    refine ⟨_, rfl, small_line (by show 2 ≤ 100000; omega), fun c9 n9 => ?_⟩
    have s9 := same_new (o := .tup [V.ref c8, V.int c]) n9
    have h9 : (upd G8 c9 (.tup [V.ref c8, V.int c])) c9 = some (.tup [V.ref c8, V.int c]) := upd_same
    generalize upd G8 c9 (.tup [V.ref c8, V.int c]) = G9 at s9 h9 ⊢
    have h1 := s9 _ _ h1
    have h2 := s9 _ _ h2
    have h3 := s9 _ _ h3
    have h4 := s9 _ _ h4
    have h5 := s9 _ _ h5
    have h6 := s9 _ _ h6
    have h7 := s9 _ _ h7
    have h8 := s9 _ _ h8
    have b1 := b1.same s9
    have b2 := b2.same s9
    have b3 := b3.same s9
    have B := B.same s9
    have sH := sH.trans s9
    have b4 : It K G9 xs (.ref c9) := it_pairD h9 (.inr (.dK h8)) (.inl ⟨_, rfl⟩) (elD_emp h8) (elD_int (lg (by omega) (by omega))) (fun i j e1 e2 => by cases e1)
    refine ⟨small_line (by show 2 ≤ 100000; omega), fun c10 n10 => ?_⟩
    have s10 := same_new (o := .tup [V.non, V.non]) n10
    have h10 : (upd G9 c10 (.tup [V.non, V.non])) c10 = some (.tup [V.non, V.non]) := upd_same
    generalize upd G9 c10 (.tup [V.non, V.non]) = G10 at s10 h10 ⊢
    have h1 := s10 _ _ h1
    have h2 := s10 _ _ h2
    have h3 := s10 _ _ h3
    have h4 := s10 _ _ h4
    have h5 := s10 _ _ h5
    have h6 := s10 _ _ h6
    have h7 := s10 _ _ h7
    have h8 := s10 _ _ h8
    have h9 := s10 _ _ h9
    have b1 := b1.same s10
    have b2 := b2.same s10
    have b3 := b3.same s10
    have b4 := b4.same s10
    have B := B.same s10
    have sH := sH.trans s10
    have b5 : It K G10 xs (.ref c10) := it_pair h10 (.inr .non) (.inr .non) (elP_non) (elP_non) (fun i j e1 e2 => by cases e1)
    refine ⟨small_line (by show 5 ≤ 100000; omega), fun c11 n11 => ?_⟩
    have s11 := same_new (o := .lst [V.ref c2, V.ref c5, V.ref c7, V.ref c9, V.ref c10]) n11
    have h11 : (upd G10 c11 (.lst [V.ref c2, V.ref c5, V.ref c7, V.ref c9, V.ref c10])) c11 = some (.lst [V.ref c2, V.ref c5, V.ref c7, V.ref c9, V.ref c10]) := upd_same
    generalize upd G10 c11 (.lst [V.ref c2, V.ref c5, V.ref c7, V.ref c9, V.ref c10]) = G11 at s11 h11 ⊢
    have h1 := s11 _ _ h1
    have h2 := s11 _ _ h2
    have h3 := s11 _ _ h3
    have h4 := s11 _ _ h4
    have h5 := s11 _ _ h5
    have h6 := s11 _ _ h6
    have h7 := s11 _ _ h7
    have h8 := s11 _ _ h8
    have h9 := s11 _ _ h9
    have h10 := s11 _ _ h10
    have b1 := b1.same s11
    have b2 := b2.same s11
    have b3 := b3.same s11
    have b4 := b4.same s11
    have b5 := b5.same s11
    have B := B.same s11
    have sH := sH.trans s11
    obtain ⟨zs, hZ, hzn, hz⟩ := B
    refine ⟨Z, c11, _, _, rfl, rfl, hZ, h11, small_line (by show zs.length + 5 ≤ 100000; omega), fun S nS => ?_⟩
    have sS := same_new (o := .lst (zs ++ [V.ref c2, V.ref c5, V.ref c7, V.ref c9, V.ref c10])) nS
    refine q _ S (sH.trans sS) ⟨_, upd_same, by rw [List.length_append]; show zs.length + 5 ≤ 1000; omega, fun v hv => ?_⟩
    refine It.same ?_ sS
    rcases List.mem_append.mp hv with hv | hv
    · exact hz v hv
    · simp only [List.mem_cons, List.not_mem_nil, or_false] at hv
      rcases hv with rfl | rfl | rfl | rfl | rfl
      · exact b1
      · exact b2
      · exact b3
      · exact b4
      · exact b5
/-! ### law -/
theorem hk_pos {xs : List Int} {r c : Nat} (h : Sh xs) (hc : Cell xs r c) : 1 ≤ hkI xs r c := by
  have h1 := (colN_gt h).mpr hc
  obtain ⟨x, e, h2⟩ := hc
  have hr := (List.getElem?_eq_some_iff.mp e).1
  have hg : xs.getD r 0 = x := by rw [List.getD_eq_getElem?_getD, e]; rfl
  unfold hkI
  rw [hg]
  omega
abbrev dS (xs : List Int) : PyData := .tuple (xs.map PyData.int)
theorem sm_share {xs : List Int} (h : Sh xs) : Sm 400 1 (dS xs) := by
  have hs : ∀ d ∈ xs.map PyData.int, Sm 13 0 d := sm_ints (B := 100) (fun x m => by have := h.a x m; omega) (by decide)
  refine (Sm.tuple hs).more ?_ (Nat.le_refl _)
  rw [List.length_map]
  have := h.n
  omega
theorem ne_emp (xs : List Int) : PyData.eqv (dS xs) (dS []) = decide (xs = []) := by
  simp only [PyData.eqv]
  exact eqvAll_ints xs []
def sp_law (K : PySem.W.Frag) : Sp := fun vs H Q _ => ∃ (a : Addr) (ns : List Int), vs = [.ref a] ∧ SqL K H a (ns.map V.int) ∧ ns.length ≤ 63 ∧ ∀ H', Q (.bl true) H'
theorem oklaw {fa : Addr} {fda : FuncData} (T : Txt K mg f fd) (F : Fun K "law" "law" stlaw fa fda) : FnG P w K mg base 6 fa fda ["_law_script"] (sp_law K) := by
  refine okG F sclaw (fun vs H Q E h => ?_) (fun cdv A outer s H vs Q E hA hr h => ?_)
  · obtain ⟨a, ns, rfl, _⟩ := h
    rfl
  · obtain ⟨a, ns, rfl, hS, hn, q⟩ := h
    refine ⟨_, (pss_cons (ps_set (i := 1) sclaw.nd rfl (Or.inl rfl) (pe_call (ok_law_pen T) (hr.mono (by decide)) (by rfl) T.g30 T.F30.kp T.b30 .nil pass0 (pa_cons (pv 0) pa_nil)))
      (pss_cons (ps_for PassesOwn.never rfl (pi_range1 (by rfl) T.m_range (pa_cons pe_int pa_nil)) (pg_name (i := 2) sclaw.nd rfl (Or.inl rfl)) (Evl.pss_cut (ps_set (i := 3) sclaw.nd rfl (Or.inl rfl) (pe_call (ok_law_share T) (hr.mono (by decide)) (by rfl) T.g32 T.F32.kp T.b32 .nil pass0 (pa_cons (pv 1) (pa_cons (pe_ix (r := rIxL K) ix_list (pe_lst (pa_cons pe_int (pa_cons pe_int pa_nil))) (pe_callTy call_int1 (by rfl) T.m_int bt_int (pa_cons (pe_cmpR op_eq (pe_call (ok_law_take T) (hr.mono (by decide)) (by rfl) T.g31 T.F31.kp T.b31 .nil pass0 (pa_cons (pv 1) (pa_cons pe_int pa_nil))) pe_int (nomark _)) pa_nil)) (fun _ _ => rfl)) pa_nil))))
      (pss_cons (ps_set (i := 4) sclaw.nd rfl (Or.inl rfl) pe_int)
      (pss_cons (ps_set (i := 5) sclaw.nd rfl (Or.inl rfl) pe_int)
      (Evl.pss_cut (ps_if (pt_cmpR (op_neD hr.units) (pv 3) (pe_tup pa_nil) (nomark _)) (pss_cons (ps_set (i := 4) sclaw.nd rfl (Or.inl rfl) (pe_call (ok_law_take T) (hr.mono (by decide)) (by rfl) T.g31 T.F31.kp T.b31 .nil pass0 (pa_cons (pv 1) (pa_cons (pe_callB (r := rLenS K) len_seq (by rfl) T.m_len bt_len (pa_cons (pv 3) pa_nil)) pa_nil))))
      (pss_one (ps_set (i := 5) sclaw.nd rfl (Or.inl rfl) (pe_call (ok_law_take T) (hr.mono (by decide)) (by rfl) T.g31 T.F31.kp T.b31 .nil pass0 (pa_cons (pv 1) (pa_cons (pe_ix (r := rIxT K) ix_tup (pv 3) (pv 4) (fun _ _ => rfl)) pa_nil)))))) pss_nil)
      (Evl.pss_cut (ps_set (i := 6) sclaw.nd rfl (Or.inl rfl) (pe_callB (r := rShw K) (call_shw hA hr.units) (by rfl) T.m_repr bt_repr (pa_cons (pv 3) pa_nil)))
      (Evl.pss_cut (ps_for PassesOwn.never rfl (pi_list (pe_call (ok_law_no_cells T) (hr.mono (by decide)) (by rfl) T.g34 T.F34.kp T.b34 .nil pass0 (pa_cons (pv 3) (pa_cons (pv 4) (pa_cons (pv 5) pa_nil))))) (pg_name (i := 7) sclaw.nd rfl (Or.inl rfl)) (Evl.pss_cut (ps_set (i := 8) sclaw.nd rfl (Or.inl rfl) (pe_callB (r := rShwX K) (call_shwX hA hr.units) (by rfl) T.m_repr bt_repr (pa_cons (pv 7) pa_nil)))
      (pss_one (ps_if (PW.pt (pw_or (pt_not (pt_val (pe_call (ok_law_refused T) (hr.mono (by decide)) (by rfl) T.g33 T.F33.kp T.b33 .nil pass0 (pa_cons (pv 3) (pa_cons (pv 7) pa_nil))))) (pw_or1 (pt_cmpR op_ne (pe_callB (r := rShwX K) (call_shwX hA hr.units) (by rfl) T.m_repr bt_repr (pa_cons (pv 7) pa_nil)) (pv 8) (nomark _))))) (pss_one (ps_ret pe_bl)) pss_nil))))
      (Evl.pss_cut (ps_if (pt_cmpR (op_neD hr.units) (pv 3) (pe_tup pa_nil) (nomark _)) (pss_cons (ps_set (i := 9) sclaw.nd rfl (Or.inl rfl) (pe_call (ok_hook_of T) (hr.mono (by decide)) (by rfl) T.g25 T.F25.kp T.b25 .nil passL (pa_cons (pv 3) (pa_cons (pe_tup (pa_cons (pv 4) (pa_cons (pv 5) pa_nil))) pa_nil))))
      (pss_one (ps_if (PW.pt (pw_or (pt_not (pt_val (pe_callB call_isi (by rfl) T.m_isinstance bt_isinstance (pa_cons (pv 9) (pa_cons (pe_bltn (v := .ty "int") (by rfl) T.m_int bt_int rfl) pa_nil))))) (pw_or (pt_val (pe_callB call_isi (by rfl) T.m_isinstance bt_isinstance (pa_cons (pv 9) (pa_cons (pe_bltn (v := .ty "bool") (by rfl) T.m_bool bt_bool rfl) pa_nil)))) (pw_or1 (pt_cmpR op_lt (pv 9) pe_int (nomark _)))))) (pss_one (ps_ret pe_bl)) pss_nil))) pss_nil)
      (pss_one (ps_if (PW.pt (pw_or (PW.pt (pw_and (pt_cmpR (op_eqD hr.units) (pv 3) (pe_tup pa_nil) (nomark _)) (pw_and1 (pt_not (pt_val (pe_call (ok_law_refused T) (hr.mono (by decide)) (by rfl) T.g33 T.F33.kp T.b33 .nil pass0 (pa_cons (pe_tup pa_nil) (pa_cons (pe_tup (pa_cons pe_int (pa_cons pe_int pa_nil))) pa_nil)))))))) (pw_or1 (pt_cmpR op_ne (pe_callB (r := rShw K) (call_shw hA hr.units) (by rfl) T.m_repr bt_repr (pa_cons (pv 3) pa_nil)) (pv 6) (nomark _))))) (pss_one (ps_ret pe_bl)) pss_nil))))))))))
      (pss_one (ps_ret pe_bl)))), ?_⟩
    refine ⟨.ref a, rfl, a, ns, rfl, hS, fun H1 p l ms s1 P1 => ?_⟩
    refine ⟨4, rfl, by decide, by decide, ?_⟩
    refine for_range (fun i σ H2 => ∃ o2 o3 o4 o5 o6 o7 o8 o9 : Option V, σ = [some (.ref a), some (.ref p), o2, o3, o4, o5, o6, o7, o8, o9] ∧ Pen H2 p l ms) ⟨none, none, none, none, none, none, none, none, rfl, P1⟩ ?_ ?_
    · rintro i _ H2 hi ⟨o2, o3, o4, o5, o6, o7, o8, o9, rfl, P2⟩
      -- share
      refine ⟨fun σ H3 => ∃ (c : Addr) (xs : List Int), σ = [some (.ref a), some (.ref p), some (.int (0 + (i : Int))), some (.ref c), o4, o5, o6, o7, o8, o9] ∧ Pen H3 p l ms ∧ H3 c = some (.tup (xs.map V.int)) ∧ Sh xs, ?_, ?_⟩
      · refine ⟨.ref p, rfl, small_line (by show 2 ≤ 100000; omega), fun z nz => ?_⟩
        have s3 := same_new (o := .lst [V.int 6, V.int 20]) nz
        refine ⟨.ref p, rfl, p, l, ms, 8, rfl, P2.same s3, by decide, by decide, fun H4 d k4 P4 d0 d1 => ?_⟩
        have hzp : z ≠ p := fun e => by
          obtain ⟨u, v, h⟩ := P2.pen
          rw [← e, nz] at h
          cases h
        have hz4 := k4 z _ hzp upd_same
        obtain ⟨m, hat, hm1, hm2⟩ : ∃ m : Int, atI [V.int 6, V.int 20] (if decide (V.int d = V.int 7) = true then 1 else 0) = some (V.int m) ∧ 1 ≤ m ∧ m ≤ 20 := by
          by_cases e : decide (V.int d = V.int 7) = true
          · rw [if_pos e]
            exact ⟨20, rfl, by decide, by decide⟩
          · rw [if_neg e]
            exact ⟨6, rfl, by decide, by decide⟩
        exact ⟨rfl, .inr ⟨_, rfl, z, _, _, .int m, rfl, rfl, SqL.of hz4, hat, p, l, ms, m, rfl, P4, hm1, hm2, fun H5 one xs k5 P5 h5 hx _ _ => ⟨one, xs, rfl, P5, h5, hx⟩⟩⟩
      rintro _ H3 ⟨sc, xs, rfl, P3, hsc, hx⟩
      have hxn := hx.n
      have hcp := P3.apart hsc
      have bX : (dS xs).showable = true ∧ (dS xs).hasDict = false ∧ (dS xs).depth ≤ 60 ∧ (dS xs).shown.length ≤ sizeLine := ⟨(sm_share hx).a, (sm_share hx).b, Nat.le_trans (sm_share hx).c (by decide), Nat.le_trans (sm_share hx).d (small_line (by decide))⟩
      -- r, c
      refine ⟨fun σ H4 => ∃ r c : Nat, σ = [some (.ref a), some (.ref p), some (.int (0 + (i : Int))), some (.ref sc), some (.int (r : Int)), some (.int (c : Int)), o6, o7, o8, o9] ∧ Pen H4 p l ms ∧ H4 sc = some (.tup (xs.map V.int)) ∧ r ≤ 20 ∧ c ≤ 20 ∧ (xs ≠ [] → Cell xs r c), ?_, ?_⟩
      · refine ⟨.ref sc, rfl, Nat.zero_le _, fun z nz => ?_⟩
        have s4 := same_new (o := .tup []) nz
        refine ⟨_, _, dp_tup (SqT.of (s4 _ _ hsc)), dp_tup (xs := []) (SqT.of upd_same), shaped_tup _, shaped_tup [], _, rfl, ?_⟩
        rw [ne_emp]
        by_cases e : xs = []
        · rw [decide_eq_true e]
          exact iteF ⟨0, 0, rfl, P3.same s4, s4 _ _ hsc, by decide, by decide, fun z => absurd e z⟩
        · rw [decide_eq_false e]
          have hl : 0 < xs.length := List.length_pos_iff.mpr e
          refine iteT ⟨.ref p, rfl, .ref sc, rfl, sc, _, rfl, .inr (SqT.of (s4 _ _ hsc)), p, l, ms, _, rfl, P3.same s4, by rw [List.length_map]; omega, by rw [List.length_map]; omega, fun H5 r k5 P5 r0 r1 => ?_⟩
          rw [List.length_map] at r1
          have hsc5 := k5 sc _ hcp (s4 _ _ hsc)
          obtain ⟨r, rfl⟩ : ∃ n : Nat, r = n := ⟨r.toNat, by omega⟩
          have hrl : r < xs.length := by omega
          have hxr := hx.a xs[r] (List.getElem_mem hrl)
          refine ⟨.ref p, rfl, .ref sc, rfl, _, rfl, sc, _, _, .int xs[r], rfl, rfl, SqT.of hsc5, at_get (by omega) ?_, p, l, ms, xs[r], rfl, P5, hxr.1, by omega, fun H6 c k6 P6 c0 c1 => ?_⟩
          · rw [List.getElem?_map, Int.toNat_natCast, List.getElem?_eq_getElem hrl]
            rfl
          obtain ⟨c, rfl⟩ : ∃ n : Nat, c = n := ⟨c.toNat, by omega⟩
          exact ⟨r, c, rfl, P6, k6 sc _ hcp hsc5, by omega, by omega, fun _ => ⟨xs[r], List.getElem?_eq_getElem hrl, c1⟩⟩
      rintro _ H4 ⟨r, c, rfl, P4, hsc4, hr20, hc20, hcell⟩
      -- kept
      refine ⟨fun σ H5 => σ = [some (.ref a), some (.ref p), some (.int (0 + (i : Int))), some (.ref sc), some (.int (r : Int)), some (.int (c : Int)), some (.str (dS xs).shown), o7, o8, o9] ∧ H4 = H5, ?_, ?_⟩
      · exact ⟨.ref sc, rfl, .ref sc, dS xs, rfl, dp_tup (SqT.of hsc4), bX.1, bX.2.1, bX.2.2.1, bX.2.2.2, rfl, rfl⟩
      rintro _ _ ⟨rfl, rfl⟩
      -- no cells
      refine ⟨fun σ H5 => ∃ o7 o8, σ = [some (.ref a), some (.ref p), some (.int (0 + (i : Int))), some (.ref sc), some (.int (r : Int)), some (.int (c : Int)), some (.str (dS xs).shown), o7, o8, o9] ∧ Same H4 H5, ?_, ?_⟩
      · refine ⟨.ref sc, rfl, _, rfl, _, rfl, sc, xs, (r : Int), (c : Int), rfl, hsc4, hx, by omega, by omega, by omega, by omega, fun H5 L s5 its => ?_⟩
        obtain ⟨zs, hL, hzn, hz⟩ := its
        refine ⟨L, rfl, ⟨_, SqL.of hL⟩, ?_⟩
        refine for_it (walk_list (xs := zs)) (fun j σ H6 => ∃ o7 o8, σ = [some (.ref a), some (.ref p), some (.int (0 + (i : Int))), some (.ref sc), some (.int (r : Int)), some (.int (c : Int)), some (.str (dS xs).shown), o7, o8, o9] ∧ Same H5 H6) ⟨o7, o8, rfl, Same.refl _⟩ (fun j σ H6 _ g => by obtain ⟨_, _, _, g⟩ := g; exact SqL.of (g _ _ hL)) ?_ ?_
        · rintro j v _ H6 H6 hj ⟨o7, o8, rfl, s6⟩ ⟨rfl, hv⟩
          obtain ⟨hnc, d, hd⟩ := (hz v (List.mem_of_getElem? hv)).same s6
          refine ⟨fun σ H7 => σ = [some (.ref a), some (.ref p), some (.int (0 + (i : Int))), some (.ref sc), some (.int (r : Int)), some (.int (c : Int)), some (.str (dS xs).shown), some v, some (.str d.shown), o9] ∧ H6 = H7, ?_, ?_⟩
          · exact ⟨v, rfl, v, d, rfl, hd, rfl, rfl⟩
          rintro _ _ ⟨rfl, rfl⟩
          refine ⟨.ref sc, rfl, v, rfl, sc, v, xs, rfl, s6 _ _ (s5 _ _ hsc4), hx, hnc, fun H7 s7 => ⟨_, rfl, ?_⟩⟩
          refine iteF ⟨v, rfl, v, d, rfl, hd.keep (kpn s7), .str d.shown, rfl, rfl, _, rfl, ?_⟩
          rw [decide_eq_true rfl]
          exact iteF ⟨_, _, rfl, s6.trans s7⟩
        · rintro _ H6 ⟨o7, o8, rfl, s6⟩
          exact ⟨_, _, rfl, s5.trans s6⟩
      rintro _ H5 ⟨o7, o8, rfl, s5⟩
      have hsc5 := s5 _ _ hsc4
      have P5 := P4.same s5
      -- the right one
      refine ⟨fun σ H6 => ∃ o9, σ = [some (.ref a), some (.ref p), some (.int (0 + (i : Int))), some (.ref sc), some (.int (r : Int)), some (.int (c : Int)), some (.str (dS xs).shown), o7, o8, o9] ∧ Same H5 H6, ?_, ?_⟩
      · refine ⟨.ref sc, rfl, Nat.zero_le _, fun z nz => ?_⟩
        have s6 := same_new (o := .tup []) nz
        refine ⟨_, _, dp_tup (SqT.of (s6 _ _ hsc5)), dp_tup (xs := []) (SqT.of upd_same), shaped_tup _, shaped_tup [], _, rfl, ?_⟩
        rw [ne_emp]
        by_cases e : xs = []
        · rw [decide_eq_true e]
          exact iteF ⟨_, rfl, s6⟩
        · rw [decide_eq_false e]
          have hc := hcell e
          have hp := hk_pos hx hc
          refine iteT ⟨.ref sc, rfl, _, rfl, _, rfl, small_line (by show 2 ≤ 100000; omega), fun t nt => ?_⟩
          have s7 := same_new (o := .tup [V.int (r : Int), V.int (c : Int)]) nt
          refine ⟨sc, _, xs, rfl, s7 _ _ (s6 _ _ hsc5), hx, .inl ⟨t, r, c, rfl, upd_same, hc, fun H8 s8 => ?_⟩⟩
          refine ⟨_, rfl, _, .ty "int", .type "int", .type "int", true, rfl, .ty _, .base (.int _), kit_ty (by decide +kernel), _, rfl, ?_⟩
          refine iteF ⟨_, rfl, _, .ty "bool", .type "int", .type "bool", false, rfl, .ty _, .base (.int _), kit_ty (by decide +kernel), _, rfl, ?_⟩
          refine iteF ⟨_, rfl, _, _, rfl, rfl, _, rfl, ?_⟩
          rw [decide_eq_false (show ¬ hkI xs r c < 1 by omega)]
          exact iteF ⟨_, rfl, (s6.trans s7).trans s8⟩
      rintro _ H6 ⟨o9, rfl, s6⟩
      have hsc6 := s6 _ _ hsc5
      have P6 := P5.same s6
      refine ⟨.ref sc, rfl, Nat.zero_le _, fun z nz => ?_⟩
      have s7 := same_new (o := .tup []) nz
      have hz7 : (upd H6 z (.tup [])) z = some (.tup (([] : List Int).map V.int)) := upd_same
      generalize upd H6 z (.tup []) = H7 at s7 hz7
      refine ⟨_, _, dp_tup (SqT.of (s7 _ _ hsc6)), dp_tup (xs := []) (SqT.of hz7), shaped_tup _, shaped_tup [], _, rfl, ?_⟩
      rw [ne_emp]
      have fin : ∀ H8, Same H7 H8 → H8 sc = some (.tup (xs.map V.int)) ∧ Pen H8 p l ms := fun H8 s8 => ⟨s8 _ _ (s7 _ _ hsc6), (P6.same s7).same s8⟩
      by_cases e : xs = []
      · rw [decide_eq_true e]
        refine iteT ⟨Nat.zero_le _, fun t nt => ?_⟩
        have s8 := same_new (o := .tup []) nt
        have h8 : (upd H7 t (.tup [])) t = some (.tup (([] : List Int).map V.int)) := upd_same
        generalize upd H7 t (.tup []) = H8 at s8 h8
        refine ⟨small_line (by show 2 ≤ 100000; omega), fun u nu => ?_⟩
        have s9 := same_new (o := .tup [V.int 0, V.int 0]) nu
        refine ⟨t, .ref u, [], rfl, s9 _ _ h8, ⟨by decide, fun _ z => (nomatch z), .nil⟩, .inr (.inr ⟨u, _, _, rfl, upd_same, .inl ⟨_, rfl⟩, .inl ⟨_, rfl⟩, fun i' j' _ _ h0 h1 => ?_⟩), fun H10 s10 => ⟨_, rfl, ?_⟩⟩
        · exfalso
          have : ((([] : List Int).length : Nat) : Int) = 0 := rfl
          omega
        obtain ⟨f1, f2⟩ := fin H10 ((s8.trans s9).trans s10)
        refine iteF ⟨.ref sc, rfl, .ref sc, dS xs, rfl, dp_tup (SqT.of f1), bX.1, bX.2.1, bX.2.2.1, bX.2.2.2, _, rfl, rfl, _, rfl, ?_⟩
        rw [decide_eq_true rfl]
        exact iteF ⟨_, _, _, _, _, _, _, _, rfl, f2⟩
      · rw [decide_eq_false e]
        obtain ⟨f1, f2⟩ := fin H7 (Same.refl _)
        refine iteF ⟨.ref sc, rfl, .ref sc, dS xs, rfl, dp_tup (SqT.of f1), bX.1, bX.2.1, bX.2.2.1, bX.2.2.2, _, rfl, rfl, _, rfl, ?_⟩
        rw [decide_eq_true rfl]
        exact iteF ⟨_, _, _, _, _, _, _, _, rfl, f2⟩
    · rintro _ H2 ⟨o2, o3, o4, o5, o6, o7, o8, o9, rfl, P2⟩
      exact q _
end
theorem all_mk {l : PySem.W.OpenLaw} {w : World} {K : PySem.W.Frag} {h : Heap} {mg : Str → Option Value} {fa : Addr} (X : K.In h) (G : h.Ns mainGlobals mg) (hfa : mg "law" = some (.ref fa))
    {f19 : Addr} {od19 an19 : Option Addr} {sl19 : Array (Option Value)} {oc19 kV19 dc19 pm19 cd19 ct19 : Value}
    (a19 : PySem.W.nsIn K mainGlobals "is_whole" = some (some (.ref f19)))
    (l19 : K.lookup f19 = some ⟨oc19, od19, .func (PySem.W.fnOf "is_whole" "is_whole" (defArgs stis_whole) (defBody stis_whole) (defScope stis_whole) .none kV19 dc19 pm19 an19 cd19 ct19), sl19⟩)
    (c19 : PySem.W.codeIn K cd19 "is_whole" = true) (k19 : PySem.W.keepIn K (.ref f19) = true)
    {f20 : Addr} {od20 an20 : Option Addr} {sl20 : Array (Option Value)} {oc20 kV20 dc20 pm20 cd20 ct20 : Value}
    (a20 : PySem.W.nsIn K mainGlobals "is_whole_from" = some (some (.ref f20)))
    (l20 : K.lookup f20 = some ⟨oc20, od20, .func (PySem.W.fnOf "is_whole_from" "is_whole_from" (defArgs stis_whole_from) (defBody stis_whole_from) (defScope stis_whole_from) .none kV20 dc20 pm20 an20 cd20 ct20), sl20⟩)
    (c20 : PySem.W.codeIn K cd20 "is_whole_from" = true) (k20 : PySem.W.keepIn K (.ref f20) = true)
    {f22 : Addr} {od22 an22 : Option Addr} {sl22 : Array (Option Value)} {oc22 kV22 dc22 pm22 cd22 ct22 : Value}
    (a22 : PySem.W.nsIn K mainGlobals "turned_share" = some (some (.ref f22)))
    (l22 : K.lookup f22 = some ⟨oc22, od22, .func (PySem.W.fnOf "turned_share" "turned_share" (defArgs stturned_share) (defBody stturned_share) (defScope stturned_share) .none kV22 dc22 pm22 an22 cd22 ct22), sl22⟩)
    (c22 : PySem.W.codeIn K cd22 "turned_share" = true) (k22 : PySem.W.keepIn K (.ref f22) = true)
    {f23 : Addr} {od23 an23 : Option Addr} {sl23 : Array (Option Value)} {oc23 kV23 dc23 pm23 cd23 ct23 : Value}
    (a23 : PySem.W.nsIn K mainGlobals "rows_beyond" = some (some (.ref f23)))
    (l23 : K.lookup f23 = some ⟨oc23, od23, .func (PySem.W.fnOf "rows_beyond" "rows_beyond" (defArgs strows_beyond) (defBody strows_beyond) (defScope strows_beyond) .none kV23 dc23 pm23 an23 cd23 ct23), sl23⟩)
    (c23 : PySem.W.codeIn K cd23 "rows_beyond" = true) (k23 : PySem.W.keepIn K (.ref f23) = true)
    {f25 : Addr} {od25 an25 : Option Addr} {sl25 : Array (Option Value)} {oc25 kV25 dc25 pm25 cd25 ct25 : Value}
    (a25 : PySem.W.nsIn K mainGlobals "hook_of" = some (some (.ref f25)))
    (l25 : K.lookup f25 = some ⟨oc25, od25, .func (PySem.W.fnOf "hook_of" "hook_of" (defArgs sthook_of) (defBody sthook_of) (defScope sthook_of) .none kV25 dc25 pm25 an25 cd25 ct25), sl25⟩)
    (c25 : PySem.W.codeIn K cd25 "hook_of" = true) (k25 : PySem.W.keepIn K (.ref f25) = true)
    {f26 : Addr} {od26 an26 : Option Addr} {sl26 : Array (Option Value)} {oc26 kV26 dc26 pm26 cd26 ct26 : Value}
    (a26 : PySem.W.nsIn K mainGlobals "hooks_of" = some (some (.ref f26)))
    (l26 : K.lookup f26 = some ⟨oc26, od26, .func (PySem.W.fnOf "hooks_of" "hooks_of" (defArgs sthooks_of) (defBody sthooks_of) (defScope sthooks_of) .none kV26 dc26 pm26 an26 cd26 ct26), sl26⟩)
    (c26 : PySem.W.codeIn K cd26 "hooks_of" = true) (k26 : PySem.W.keepIn K (.ref f26) = true)
    {f27 : Addr} {od27 an27 : Option Addr} {sl27 : Array (Option Value)} {oc27 kV27 dc27 pm27 cd27 ct27 : Value}
    (a27 : PySem.W.nsIn K mainGlobals "hooks_of_row" = some (some (.ref f27)))
    (l27 : K.lookup f27 = some ⟨oc27, od27, .func (PySem.W.fnOf "hooks_of_row" "hooks_of_row" (defArgs sthooks_of_row) (defBody sthooks_of_row) (defScope sthooks_of_row) .none kV27 dc27 pm27 an27 cd27 ct27), sl27⟩)
    (c27 : PySem.W.codeIn K cd27 "hooks_of_row" = true) (k27 : PySem.W.keepIn K (.ref f27) = true)
    {f28 : Addr} {od28 an28 : Option Addr} {sl28 : Array (Option Value)} {oc28 kV28 dc28 pm28 cd28 ct28 : Value}
    (a28 : PySem.W.nsIn K mainGlobals "is_cell_of" = some (some (.ref f28)))
    (l28 : K.lookup f28 = some ⟨oc28, od28, .func (PySem.W.fnOf "is_cell_of" "is_cell_of" (defArgs stis_cell_of) (defBody stis_cell_of) (defScope stis_cell_of) .none kV28 dc28 pm28 an28 cd28 ct28), sl28⟩)
    (c28 : PySem.W.codeIn K cd28 "is_cell_of" = true) (k28 : PySem.W.keepIn K (.ref f28) = true)
    {f30 : Addr} {od30 an30 : Option Addr} {sl30 : Array (Option Value)} {oc30 kV30 dc30 pm30 cd30 ct30 : Value}
    (a30 : PySem.W.nsIn K mainGlobals "_law_pen" = some (some (.ref f30)))
    (l30 : K.lookup f30 = some ⟨oc30, od30, .func (PySem.W.fnOf "_law_pen" "_law_pen" (defArgs st_law_pen) (defBody st_law_pen) (defScope st_law_pen) .none kV30 dc30 pm30 an30 cd30 ct30), sl30⟩)
    (c30 : PySem.W.codeIn K cd30 "_law_pen" = true) (k30 : PySem.W.keepIn K (.ref f30) = true)
    {f31 : Addr} {od31 an31 : Option Addr} {sl31 : Array (Option Value)} {oc31 kV31 dc31 pm31 cd31 ct31 : Value}
    (a31 : PySem.W.nsIn K mainGlobals "_law_take" = some (some (.ref f31)))
    (l31 : K.lookup f31 = some ⟨oc31, od31, .func (PySem.W.fnOf "_law_take" "_law_take" (defArgs st_law_take) (defBody st_law_take) (defScope st_law_take) .none kV31 dc31 pm31 an31 cd31 ct31), sl31⟩)
    (c31 : PySem.W.codeIn K cd31 "_law_take" = true) (k31 : PySem.W.keepIn K (.ref f31) = true)
    {f32 : Addr} {od32 an32 : Option Addr} {sl32 : Array (Option Value)} {oc32 kV32 dc32 pm32 cd32 ct32 : Value}
    (a32 : PySem.W.nsIn K mainGlobals "_law_share" = some (some (.ref f32)))
    (l32 : K.lookup f32 = some ⟨oc32, od32, .func (PySem.W.fnOf "_law_share" "_law_share" (defArgs st_law_share) (defBody st_law_share) (defScope st_law_share) .none kV32 dc32 pm32 an32 cd32 ct32), sl32⟩)
    (c32 : PySem.W.codeIn K cd32 "_law_share" = true) (k32 : PySem.W.keepIn K (.ref f32) = true)
    {f33 : Addr} {od33 an33 : Option Addr} {sl33 : Array (Option Value)} {oc33 kV33 dc33 pm33 cd33 ct33 : Value}
    (a33 : PySem.W.nsIn K mainGlobals "_law_refused" = some (some (.ref f33)))
    (l33 : K.lookup f33 = some ⟨oc33, od33, .func (PySem.W.fnOf "_law_refused" "_law_refused" (defArgs st_law_refused) (defBody st_law_refused) (defScope st_law_refused) .none kV33 dc33 pm33 an33 cd33 ct33), sl33⟩)
    (c33 : PySem.W.codeIn K cd33 "_law_refused" = true) (k33 : PySem.W.keepIn K (.ref f33) = true)
    {f34 : Addr} {od34 an34 : Option Addr} {sl34 : Array (Option Value)} {oc34 kV34 dc34 pm34 cd34 ct34 : Value}
    (a34 : PySem.W.nsIn K mainGlobals "_law_no_cells" = some (some (.ref f34)))
    (l34 : K.lookup f34 = some ⟨oc34, od34, .func (PySem.W.fnOf "_law_no_cells" "_law_no_cells" (defArgs st_law_no_cells) (defBody st_law_no_cells) (defScope st_law_no_cells) .none kV34 dc34 pm34 an34 cd34 ct34), sl34⟩)
    (c34 : PySem.W.codeIn K cd34 "_law_no_cells" = true) (k34 : PySem.W.keepIn K (.ref f34) = true)
    {f35 : Addr} {od35 an35 : Option Addr} {sl35 : Array (Option Value)} {oc35 kV35 dc35 pm35 cd35 ct35 : Value}
    (a35 : PySem.W.nsIn K mainGlobals "law" = some (some (.ref f35)))
    (l35 : K.lookup f35 = some ⟨oc35, od35, .func (PySem.W.fnOf "law" "law" (defArgs stlaw) (defBody stlaw) (defScope stlaw) .none kV35 dc35 pm35 an35 cd35 ct35), sl35⟩)
    (c35 : PySem.W.codeIn K cd35 "law" = true) (k35 : PySem.W.keepIn K (.ref f35) = true)
    {f1 : Addr} (a1 : PySem.W.nsIn K mainGlobals "GridError" = some (some (.ref f1)))
    {f2 : Addr} (a2 : PySem.W.nsIn K mainGlobals "NoShare" = some (some (.ref f2)))
    {f3 : Addr} (a3 : PySem.W.nsIn K mainGlobals "NoBox" = some (some (.ref f3)))
    {f4 : Addr} (a4 : PySem.W.nsIn K mainGlobals "NoFit" = some (some (.ref f4)))
    {f5 : Addr} (a5 : PySem.W.nsIn K mainGlobals "NoNumber" = some (some (.ref f5)))
    {f6 : Addr} (a6 : PySem.W.nsIn K mainGlobals "NoRow" = some (some (.ref f6)))
    {f7 : Addr} (a7 : PySem.W.nsIn K mainGlobals "NoCell" = some (some (.ref f7)))
    {f8 : Addr} (a8 : PySem.W.nsIn K mainGlobals "NoChain" = some (some (.ref f8)))
    {f9 : Addr} (a9 : PySem.W.nsIn K mainGlobals "NoSquare" = some (some (.ref f9)))
    {f10 : Addr} (a10 : PySem.W.nsIn K mainGlobals "NoFilling" = some (some (.ref f10)))
    {f11 : Addr} (a11 : PySem.W.nsIn K mainGlobals "NoWalk" = some (some (.ref f11)))
    {f12 : Addr} (a12 : PySem.W.nsIn K mainGlobals "NoStack" = some (some (.ref f12)))
    {f13 : Addr} (a13 : PySem.W.nsIn K mainGlobals "NoPile" = some (some (.ref f13)))
    {f14 : Addr} (a14 : PySem.W.nsIn K mainGlobals "NoWay" = some (some (.ref f14)))
    {f15 : Addr} (a15 : PySem.W.nsIn K mainGlobals "NoBack" = some (some (.ref f15)))
    {f16 : Addr} (a16 : PySem.W.nsIn K mainGlobals "NoText" = some (some (.ref f16)))
    {f17 : Addr} (a17 : PySem.W.nsIn K mainGlobals "NoWord" = some (some (.ref f17)))
    (x7_ : PySem.W.excIn K f7 [.type "ValueError", .type "Exception", .type "BaseException", .type "object"] "ValueError.__new__" = true)
    (k7_ : PySem.W.keepIn K (.ref f7) = true)
    (t7_ : PySem.W.typeIn K (.ref f7) = some (.type "type"))
    (v7_ : PySem.W.kitOne K (.ref f7) (.type "ValueError") = some true)
    (m7_ : PySem.W.exmOne K (.ref f7) (.ref f1) = some true)
    (e7_hg_ : PySem.W.findIn K (.ref f7) "__getattribute__" = some (some (.builtin "BaseException.__getattribute__")))
    (e7_hk_ : PySem.W.findIn K (.ref f7) "__getattr__" = some none)
    (e7_hs_ : PySem.W.subIn K (.ref f7) (.type "BaseException") = some true)
    (e7_hd_ : PySem.W.hasDictIn K f7 = true)
    (e7_ha_ : PySem.W.findIn K (.ref f7) "__class__" = some (some (.builtin "object.__class__")))
    (e7_hn_ : PySem.W.specialIn K (.builtin "object.__class__") "__get__" = some (some (.builtin "getset_descriptor.__get__")))
    (e7_ht_ : PySem.W.takesIn K (.builtin "object.__class__") = some true)
    (e7_hm_ : PySem.W.mroIn K f7 (.type "object") = some true)
    (q7_1_ : PySem.W.kitOne K (.ref f7) (.ref f1) = some true)
    (q7_2_ : PySem.W.kitOne K (.ref f7) (.ref f2) = some false)
    (q7_3_ : PySem.W.kitOne K (.ref f7) (.ref f3) = some false)
    (q7_4_ : PySem.W.kitOne K (.ref f7) (.ref f4) = some false)
    (q7_5_ : PySem.W.kitOne K (.ref f7) (.ref f5) = some false)
    (q7_6_ : PySem.W.kitOne K (.ref f7) (.ref f6) = some false)
    (q7_7_ : PySem.W.kitOne K (.ref f7) (.ref f7) = some true)
    (q7_8_ : PySem.W.kitOne K (.ref f7) (.ref f8) = some false)
    (q7_9_ : PySem.W.kitOne K (.ref f7) (.ref f9) = some false)
    (q7_10_ : PySem.W.kitOne K (.ref f7) (.ref f10) = some false)
    (q7_11_ : PySem.W.kitOne K (.ref f7) (.ref f11) = some false)
    (q7_12_ : PySem.W.kitOne K (.ref f7) (.ref f12) = some false)
    (q7_13_ : PySem.W.kitOne K (.ref f7) (.ref f13) = some false)
    (q7_14_ : PySem.W.kitOne K (.ref f7) (.ref f14) = some false)
    (q7_15_ : PySem.W.kitOne K (.ref f7) (.ref f15) = some false)
    (q7_16_ : PySem.W.kitOne K (.ref f7) (.ref f16) = some false)
    (q7_17_ : PySem.W.kitOne K (.ref f7) (.ref f17) = some false)
    (z_ValueError : PySem.W.nsIn K mainGlobals "ValueError" = some none)
    (z_abs : PySem.W.nsIn K mainGlobals "abs" = some none)
    (z_bool : PySem.W.nsIn K mainGlobals "bool" = some none)
    (z_enumerate : PySem.W.nsIn K mainGlobals "enumerate" = some none)
    (z_int : PySem.W.nsIn K mainGlobals "int" = some none)
    (z_isinstance : PySem.W.nsIn K mainGlobals "isinstance" = some none)
    (z_len : PySem.W.nsIn K mainGlobals "len" = some none)
    (z_list : PySem.W.nsIn K mainGlobals "list" = some none)
    (z_max : PySem.W.nsIn K mainGlobals "max" = some none)
    (z_range : PySem.W.nsIn K mainGlobals "range" = some none)
    (z_repr : PySem.W.nsIn K mainGlobals "repr" = some none)
    (z_str : PySem.W.nsIn K mainGlobals "str" = some none)
    (z_tuple : PySem.W.nsIn K mainGlobals "tuple" = some none)
    : ∃ fd : FuncData, (∀ (s : Shared) (v : Value), BindsTo s fd ⟨[v], []⟩ [("_law_script", v)]) ∧ ∀ base : Heap, K.In base → base.Ns mainGlobals mg → FnG l.prog w K mg base 6 fa fd ["_law_script"] (sp_law K) := by
  have e := hfa.symm.trans (PySem.W.mg_of X G a35)
  cases e
  have F19 := fun_mk (st := stis_whole) l19 c19 k19
  have F20 := fun_mk (st := stis_whole_from) l20 c20 k20
  have F22 := fun_mk (st := stturned_share) l22 c22 k22
  have F23 := fun_mk (st := strows_beyond) l23 c23 k23
  have F25 := fun_mk (st := sthook_of) l25 c25 k25
  have F26 := fun_mk (st := sthooks_of) l26 c26 k26
  have F27 := fun_mk (st := sthooks_of_row) l27 c27 k27
  have F28 := fun_mk (st := stis_cell_of) l28 c28 k28
  have F30 := fun_mk (st := st_law_pen) l30 c30 k30
  have F31 := fun_mk (st := st_law_take) l31 c31 k31
  have F32 := fun_mk (st := st_law_share) l32 c32 k32
  have F33 := fun_mk (st := st_law_refused) l33 c33 k33
  have F34 := fun_mk (st := st_law_no_cells) l34 c34 k34
  have F35 := fun_mk (st := stlaw) l35 c35 k35
  have T : Txt K mg (fun i => match i with | 19 => f19 | 20 => f20 | 22 => f22 | 23 => f23 | 25 => f25 | 26 => f26 | 27 => f27 | 28 => f28 | 30 => f30 | 31 => f31 | 32 => f32 | 33 => f33 | 34 => f34 | 1 => f1 | 2 => f2 | 3 => f3 | 4 => f4 | 5 => f5 | 6 => f6 | 7 => f7 | 8 => f8 | 9 => f9 | 10 => f10 | 11 => f11 | 12 => f12 | 13 => f13 | 14 => f14 | 15 => f15 | 16 => f16 | 17 => f17 | _ => fa) (fun i => match i with | 19 => PySem.W.fnOf "is_whole" "is_whole" (defArgs stis_whole) (defBody stis_whole) (defScope stis_whole) .none kV19 dc19 pm19 an19 cd19 ct19 | 20 => PySem.W.fnOf "is_whole_from" "is_whole_from" (defArgs stis_whole_from) (defBody stis_whole_from) (defScope stis_whole_from) .none kV20 dc20 pm20 an20 cd20 ct20 | 22 => PySem.W.fnOf "turned_share" "turned_share" (defArgs stturned_share) (defBody stturned_share) (defScope stturned_share) .none kV22 dc22 pm22 an22 cd22 ct22 | 23 => PySem.W.fnOf "rows_beyond" "rows_beyond" (defArgs strows_beyond) (defBody strows_beyond) (defScope strows_beyond) .none kV23 dc23 pm23 an23 cd23 ct23 | 25 => PySem.W.fnOf "hook_of" "hook_of" (defArgs sthook_of) (defBody sthook_of) (defScope sthook_of) .none kV25 dc25 pm25 an25 cd25 ct25 | 26 => PySem.W.fnOf "hooks_of" "hooks_of" (defArgs sthooks_of) (defBody sthooks_of) (defScope sthooks_of) .none kV26 dc26 pm26 an26 cd26 ct26 | 27 => PySem.W.fnOf "hooks_of_row" "hooks_of_row" (defArgs sthooks_of_row) (defBody sthooks_of_row) (defScope sthooks_of_row) .none kV27 dc27 pm27 an27 cd27 ct27 | 28 => PySem.W.fnOf "is_cell_of" "is_cell_of" (defArgs stis_cell_of) (defBody stis_cell_of) (defScope stis_cell_of) .none kV28 dc28 pm28 an28 cd28 ct28 | 30 => PySem.W.fnOf "_law_pen" "_law_pen" (defArgs st_law_pen) (defBody st_law_pen) (defScope st_law_pen) .none kV30 dc30 pm30 an30 cd30 ct30 | 31 => PySem.W.fnOf "_law_take" "_law_take" (defArgs st_law_take) (defBody st_law_take) (defScope st_law_take) .none kV31 dc31 pm31 an31 cd31 ct31 | 32 => PySem.W.fnOf "_law_share" "_law_share" (defArgs st_law_share) (defBody st_law_share) (defScope st_law_share) .none kV32 dc32 pm32 an32 cd32 ct32 | 33 => PySem.W.fnOf "_law_refused" "_law_refused" (defArgs st_law_refused) (defBody st_law_refused) (defScope st_law_refused) .none kV33 dc33 pm33 an33 cd33 ct33 | 34 => PySem.W.fnOf "_law_no_cells" "_law_no_cells" (defArgs st_law_no_cells) (defBody st_law_no_cells) (defScope st_law_no_cells) .none kV34 dc34 pm34 an34 cd34 ct34 | 35 => PySem.W.fnOf "law" "law" (defArgs stlaw) (defBody stlaw) (defScope stlaw) .none kV35 dc35 pm35 an35 cd35 ct35 | _ => PySem.W.fnOf "law" "law" (defArgs stlaw) (defBody stlaw) (defScope stlaw) .none kV35 dc35 pm35 an35 cd35 ct35) := {
    F19 := F19
    g19 := PySem.W.mg_of X G a19
    b19 := F19.binds (ps := ["thing"]) fun _ _ _ _ _ _ us hl => match us, hl with | [_], _ => rfl
    F20 := F20
    g20 := PySem.W.mg_of X G a20
    b20 := F20.binds (ps := ["least", "most", "thing"]) fun _ _ _ _ _ _ us hl => match us, hl with | [_, _, _], _ => rfl
    F22 := F22
    g22 := PySem.W.mg_of X G a22
    b22 := F22.binds (ps := ["share"]) fun _ _ _ _ _ _ us hl => match us, hl with | [_], _ => rfl
    F23 := F23
    g23 := PySem.W.mg_of X G a23
    b23 := F23.binds (ps := ["share", "column"]) fun _ _ _ _ _ _ us hl => match us, hl with | [_, _], _ => rfl
    F25 := F25
    g25 := PySem.W.mg_of X G a25
    b25 := F25.binds (ps := ["share", "cell"]) fun _ _ _ _ _ _ us hl => match us, hl with | [_, _], _ => rfl
    F26 := F26
    g26 := PySem.W.mg_of X G a26
    b26 := F26.binds (ps := ["share"]) fun _ _ _ _ _ _ us hl => match us, hl with | [_], _ => rfl
    F27 := F27
    g27 := PySem.W.mg_of X G a27
    b27 := F27.binds (ps := ["row", "length", "turned"]) fun _ _ _ _ _ _ us hl => match us, hl with | [_, _, _], _ => rfl
    F28 := F28
    g28 := PySem.W.mg_of X G a28
    b28 := F28.binds (ps := ["share", "thing"]) fun _ _ _ _ _ _ us hl => match us, hl with | [_, _], _ => rfl
    F30 := F30
    g30 := PySem.W.mg_of X G a30
    b30 := F30.binds (ps := ["_law_script"]) fun _ _ _ _ _ _ us hl => match us, hl with | [_], _ => rfl
    F31 := F31
    g31 := PySem.W.mg_of X G a31
    b31 := F31.binds (ps := ["_law_pen_here", "_law_many"]) fun _ _ _ _ _ _ us hl => match us, hl with | [_, _], _ => rfl
    F32 := F32
    g32 := PySem.W.mg_of X G a32
    b32 := F32.binds (ps := ["_law_pen_here", "_law_most"]) fun _ _ _ _ _ _ us hl => match us, hl with | [_, _], _ => rfl
    F33 := F33
    g33 := PySem.W.mg_of X G a33
    b33 := F33.binds (ps := ["_law_share_here", "_law_thing"]) fun _ _ _ _ _ _ us hl => match us, hl with | [_, _], _ => rfl
    F34 := F34
    g34 := PySem.W.mg_of X G a34
    b34 := F34.binds (ps := ["_law_share_here", "_law_r", "_law_c"]) fun _ _ _ _ _ _ us hl => match us, hl with | [_, _, _], _ => rfl
    g1 := PySem.W.mg_of X G a1
    g2 := PySem.W.mg_of X G a2
    g3 := PySem.W.mg_of X G a3
    g4 := PySem.W.mg_of X G a4
    g5 := PySem.W.mg_of X G a5
    g6 := PySem.W.mg_of X G a6
    g7 := PySem.W.mg_of X G a7
    g8 := PySem.W.mg_of X G a8
    g9 := PySem.W.mg_of X G a9
    g10 := PySem.W.mg_of X G a10
    g11 := PySem.W.mg_of X G a11
    g12 := PySem.W.mg_of X G a12
    g13 := PySem.W.mg_of X G a13
    g14 := PySem.W.mg_of X G a14
    g15 := PySem.W.mg_of X G a15
    g16 := PySem.W.mg_of X G a16
    g17 := PySem.W.mg_of X G a17
    x7 := x7_
    k7 := k7_
    t7 := t7_
    v7 := v7_
    m7 := m7_
    e7 := ⟨e7_hg_, e7_hk_, e7_hs_, e7_hd_, e7_ha_, e7_hn_, e7_ht_, e7_hm_⟩
    q7_1 := q7_1_
    q7_2 := q7_2_
    q7_3 := q7_3_
    q7_4 := q7_4_
    q7_5 := q7_5_
    q7_6 := q7_6_
    q7_7 := q7_7_
    q7_8 := q7_8_
    q7_9 := q7_9_
    q7_10 := q7_10_
    q7_11 := q7_11_
    q7_12 := q7_12_
    q7_13 := q7_13_
    q7_14 := q7_14_
    q7_15 := q7_15_
    q7_16 := q7_16_
    q7_17 := q7_17_
    m_ValueError := PySem.W.mg_none_of X G z_ValueError
    m_abs := PySem.W.mg_none_of X G z_abs
    m_bool := PySem.W.mg_none_of X G z_bool
    m_enumerate := PySem.W.mg_none_of X G z_enumerate
    m_int := PySem.W.mg_none_of X G z_int
    m_isinstance := PySem.W.mg_none_of X G z_isinstance
    m_len := PySem.W.mg_none_of X G z_len
    m_list := PySem.W.mg_none_of X G z_list
    m_max := PySem.W.mg_none_of X G z_max
    m_range := PySem.W.mg_none_of X G z_range
    m_repr := PySem.W.mg_none_of X G z_repr
    m_str := PySem.W.mg_none_of X G z_str
    m_tuple := PySem.W.mg_none_of X G z_tuple }
  exact ⟨_, fun s v => .of_eq rfl, fun base _ _ => oklaw T F35⟩
end K17
open PySem PySem.W PyProof.Rows
set_option maxHeartbeats 0 in
theorem PySem.Challenge.cw_gridshares_k17_what_is_no_cell_holds : PySem.Challenge.rw_gridshares_k17_what_is_no_cell.Holds := by
  w_on; o_law; k_head; (case hw => w_witness2)
  k_fill
  refine GS.walkG (l := PySem.Challenge.rw_gridshares_k17_what_is_no_cell) (n := 63) (k := 6) (x := "_law_script") (sp := fun w => K17.sp_law _) rfl (by decide) rfl ⟨rfl, by decide, by decide⟩ (fun w h Y => PySem.W.kIn_of Y) ?F (fun _ _ a ns hl hS => ⟨a, ns, rfl, hS, hl, fun _ => rfl⟩)
  case F =>
    intro w mg fa h KX G hmg
    refine' K17.all_mk KX G hmg ?a19 ?l19 ?c19 ?k19 ?a20 ?l20 ?c20 ?k20 ?a22 ?l22 ?c22 ?k22 ?a23 ?l23 ?c23 ?k23 ?a25 ?l25 ?c25 ?k25 ?a26 ?l26 ?c26 ?k26 ?a27 ?l27 ?c27 ?k27 ?a28 ?l28 ?c28 ?k28 ?a30 ?l30 ?c30 ?k30 ?a31 ?l31 ?c31 ?k31 ?a32 ?l32 ?c32 ?k32 ?a33 ?l33 ?c33 ?k33 ?a34 ?l34 ?c34 ?k34 ?a35 ?l35 ?c35 ?k35 ?a1 ?a2 ?a3 ?a4 ?a5 ?a6 ?a7 ?a8 ?a9 ?a10 ?a11 ?a12 ?a13 ?a14 ?a15 ?a16 ?a17 ?x7_ ?k7_ ?t7_ ?v7_ ?m7_ ?e7_hg_ ?e7_hk_ ?e7_hs_ ?e7_hd_ ?e7_ha_ ?e7_hn_ ?e7_ht_ ?e7_hm_ ?q7_1_ ?q7_2_ ?q7_3_ ?q7_4_ ?q7_5_ ?q7_6_ ?q7_7_ ?q7_8_ ?q7_9_ ?q7_10_ ?q7_11_ ?q7_12_ ?q7_13_ ?q7_14_ ?q7_15_ ?q7_16_ ?q7_17_ ?z_ValueError ?z_abs ?z_bool ?z_enumerate ?z_int ?z_isinstance ?z_len ?z_list ?z_max ?z_range ?z_repr ?z_str ?z_tuple
    (case a19 => k_is); (case l19 => k_is); (case c19 => k_is); (case k19 => k_is); (case a20 => k_is); (case l20 => k_is); (case c20 => k_is); (case k20 => k_is); (case a22 => k_is); (case l22 => k_is); (case c22 => k_is); (case k22 => k_is); (case a23 => k_is); (case l23 => k_is); (case c23 => k_is); (case k23 => k_is); (case a25 => k_is); (case l25 => k_is); (case c25 => k_is); (case k25 => k_is); (case a26 => k_is); (case l26 => k_is); (case c26 => k_is); (case k26 => k_is); (case a27 => k_is); (case l27 => k_is); (case c27 => k_is); (case k27 => k_is); (case a28 => k_is); (case l28 => k_is); (case c28 => k_is); (case k28 => k_is); (case a30 => k_is); (case l30 => k_is); (case c30 => k_is); (case k30 => k_is); (case a31 => k_is); (case l31 => k_is); (case c31 => k_is); (case k31 => k_is); (case a32 => k_is); (case l32 => k_is); (case c32 => k_is); (case k32 => k_is); (case a33 => k_is); (case l33 => k_is); (case c33 => k_is); (case k33 => k_is); (case a34 => k_is); (case l34 => k_is); (case c34 => k_is); (case k34 => k_is); (case a35 => k_is); (case l35 => k_is); (case c35 => k_is); (case k35 => k_is); (case a1 => k_is); (case a2 => k_is); (case a3 => k_is); (case a4 => k_is); (case a5 => k_is); (case a6 => k_is); (case a7 => k_is); (case a8 => k_is); (case a9 => k_is); (case a10 => k_is); (case a11 => k_is); (case a12 => k_is); (case a13 => k_is); (case a14 => k_is); (case a15 => k_is); (case a16 => k_is); (case a17 => k_is); (case x7_ => k_exc); (case k7_ => first | rfl | k_is); (case t7_ => first | rfl | k_is); (case v7_ => first | rfl | k_is); (case m7_ => first | rfl | k_is); (case e7_hg_ => first | rfl | k_is); (case e7_hk_ => first | rfl | k_is); (case e7_hs_ => first | rfl | k_is); (case e7_hd_ => first | rfl | k_is); (case e7_ha_ => first | rfl | k_is); (case e7_hn_ => first | rfl | k_is); (case e7_ht_ => first | rfl | k_is); (case e7_hm_ => first | rfl | k_is); (case q7_1_ => first | rfl | k_is); (case q7_2_ => first | rfl | k_is); (case q7_3_ => first | rfl | k_is); (case q7_4_ => first | rfl | k_is); (case q7_5_ => first | rfl | k_is); (case q7_6_ => first | rfl | k_is); (case q7_7_ => first | rfl | k_is); (case q7_8_ => first | rfl | k_is); (case q7_9_ => first | rfl | k_is); (case q7_10_ => first | rfl | k_is); (case q7_11_ => first | rfl | k_is); (case q7_12_ => first | rfl | k_is); (case q7_13_ => first | rfl | k_is); (case q7_14_ => first | rfl | k_is); (case q7_15_ => first | rfl | k_is); (case q7_16_ => first | rfl | k_is); (case q7_17_ => first | rfl | k_is); (case z_ValueError => k_is); (case z_abs => k_is); (case z_bool => k_is); (case z_enumerate => k_is); (case z_int => k_is); (case z_isinstance => k_is); (case z_len => k_is); (case z_list => k_is); (case z_max => k_is); (case z_range => k_is); (case z_repr => k_is); (case z_str => k_is); (case z_tuple => k_is)
