import PyProof.Rows.All
import Wide.All
import OpenK.AllK
import Wide.FinOn
import HandS.ForMost
import HandS.IsInst
import HandS.TupAny
import HandS.TupMul
import HandS.Conv
import PyProof.NeKinds
import PyProof.ReprLen
import KE.KRevSl
import KE.GoesEnum
import HandS.Walk
import HandS.Replace
import PyProof.Rows.RegReprOcc
import PyProof.StrOps2
import KE.BitLaws
import PyProof.ListStr
import HandS.More
import HandS.NoneIn
import HandS.Steps
import PySem.Challenge.RW_pairedaway_k27_rules_with_errors
set_option Elab.async false
set_option maxRecDepth 100000
set_option maxHeartbeats 4000000
/-! Own layer for laws that call repr: promises of defs that run where no repr is under way, data with empty dicts, repr's rule. -/
namespace GL
open PySem PySem.Spec PyProof.Rows L2

/-- a def's promise, claimed only where no guard of repr stands around -/
structure Fg (P : Program) (w : World) (K : PySem.W.Frag) (mg : Str → Option Value) (base : Heap) (CX : CXT) (k : Nat) (f : Addr) (fd : FuncData) (ps : List Str) (sp : Sp) : Prop where
  ln : ∀ vs H Q E, sp vs H Q E → vs.length = ps.length
  go : ∀ (A : Around) (outer : List Env) (s : Shared) (H : Hp) (args : Args) (us : List Value) (vs : List V) (Q : VK) (E : XK), A.guards = some [] → Room k A → Env0 P w K mg base A outer s H →
    BindsTo s fd args (ps.zip us) → Vals vs us → sp vs H Q E → codeAny (model P w) A (.call (.ref f) args) (CR CX outer P w H s Q E) s

theorem Fg.of {P : Program} {w : World} {K : PySem.W.Frag} {mg : Str → Option Value} {base : Heap} {CX : CXT} {k : Nat} {f : Addr} {fd : FuncData} {ps : List Str} {sp : Sp} (F : FnOk P w K mg base CX k f fd ps sp) : Fg P w K mg base CX k f fd ps sp :=
  ⟨F.len, fun A outer s H args us vs Q E _ => F.run A outer s H args us vs Q E⟩

theorem guards_deeper {A : Around} {env : Env} (h : A.guards = some []) : (A.deeper env).guards = some [] := by
  simp [Around.deeper, h]

section
variable {P : Program} {w : World} {K : PySem.W.Frag} {mg : Str → Option Value} {base : Heap}
/-- the rule for such a def: as for any other, with the fact about guards at hand -/
theorem ok_g {x qual : Str} {st : Stmt} {f : Addr} {fd : FuncData} {N ps : List Str} {k : Nat} {sp : Sp} (F : Fun K x qual st f fd) (S : FnScope N ps (defScope st)) (ln : ∀ vs H Q E, sp vs H Q E → vs.length = ps.length)
    (bd : ∀ (cdv : Value) (A : Around) (outer : List Env) (s : Shared) (H : Hp) (vs : List V) (Q : VK) (E : XK), (A.deeper (envOfC qual (defScope st) s.heap.objs.size f cdv)).guards = some [] → Room k (A.deeper (envOfC qual (defScope st) s.heap.objs.size f cdv)) → sp vs H Q E →
      ∃ t, PSs (cxOf CX0 P w K mg base N qual (defScope st) f cdv A outer s H E).nox (defBody st) t ∧ t { nx := fun _ H' => Q .non H', rt := Q } (start N vs) H) : Fg P w K mg base CX0 (k + 1) f fd ps sp := by
  obtain ⟨oc, od, kV, doc, pm, an, cdv, ct, osl, rfl, lk, hcd⟩ := F.ex
  refine ⟨ln, fun A outer s H args us vs Q E hg hr e0 hb r hsp => ?_⟩
  have lv := ln _ _ _ _ hsp
  have KI : K.In s.heap := e0.mod.kin.keeps fun b o q => (e0.bs b o q).1
  have NL : s.heap.NoLimit := e0.mod.nolimit.keeps fun b o q => (e0.bs b o q).1
  have kinds : ∀ y ∈ ps.zip us, (defScope st).names.lookup y.1 = some .local ∨ ((defScope st).names.lookup y.1 = some .cell ∧ ((cellsFrom (s.heap.objs.size + 1) (defScope st).names []).lookup y.1).isSome = true) := by
    rintro ⟨n, v⟩ hy
    cases S.par n (List.of_mem_zip hy).1 with
    | inl q => exact .inl q
    | inr q => exact .inr ⟨q, PySem.W.cellsFrom_some _ _ _ (.inl q)⟩
  refine codeAny_call_function hr.depth (KI _ _ lk) rfl S.co S.gen rfl (PySem.W.codeRec_of KI hcd) (hb _ _ _ _ (wpAny_newFunctionEnv_cells S.kind kinds fun env he s1 x => ?_))
  cases he
  obtain ⟨t, ht, hq⟩ := bd cdv A outer s H vs Q E (guards_deeper hg) (hr.deeper _) hsp
  refine ⟨NL.keeps x.toInCall.keep, codeAny_func (wpAny_mono (ht.nox.run [] s1 (start N vs) H _ (inv_start S hr.hd e0 lv r x) hq) (fun fl s' hs => ?_) fun e s' hs => hs)⟩
  have fin : ∀ {τ : L2.St} {G : Hp} {v : V} {u : Value}, Inv (cxOf CX0 P w K mg base N qual (defScope st) f cdv A outer s H E) [] τ G s' → RelV v u → Q v G → CE outer P w H s Q u s' :=
    fun {τ G v u} J rv q => ⟨v, G, J.os, J.bare, J.base, J.hok, rv, q⟩
  match fl, hs with
  | .ret u, ⟨v, τ, G, J, rv, q⟩ => exact fin J rv q
  | .next, ⟨τ, G, J, q⟩ => exact fin (v := V.non) (u := Value.none) J rfl q
  | .brk, ⟨_, _, _, q⟩ => exact q.elim
  | .cont, ⟨_, _, _, q⟩ => exact q.elim
end

section
variable {X : Cx} {CX : CXT} {k : Nat} {f : Addr} {fd : FuncData} {ps : List Str} {sp : Sp} {E : XK} {x : Str} {p pos : Pos} {e : Expr} {es : List Expr} {t : TA}
/-- f(e, ..) of such a def, without defaults -/
theorem pe_callg (hg : X.A.guards = some []) (F : Fg X.prog X.w X.K X.mg X.base CX k f fd ps sp) (hr : Room k X.A) (gl : Gl X x) (hm : X.mg x = some (.ref f)) (kp : PySem.W.keepIn X.K (.ref f) = true) (hb : Binds X.K fd ps []) (hx : Passes CX X E)
    (ha : PA X (e :: es) t) (hdb : (x == ("__debug__" : Str)) = false := by decide) (se : starEach (e :: es) X.env = (false, eval e X.env) :: starEach es X.env := by rfl) (pl : (backTo pos (starEach es X.env)).any (·.1) = false := by rfl) :
    PE X (.Call (.Name x p) (e :: es) [] pos) (tCall sp [] E t) := by
  refine ⟨fun pins s σ H Q I h => wpAny_Call_Name_kw (ld_glob I gl hm ?_ hdb)⟩
  refine PySem.W.callWith_K (h₀ := X.base) I.ok.mod.kin kp (thn (ha.run pos pins s σ H _ I h) fun us s1 ⟨vs, G, J, r, q⟩ => ⟨J.kIn, ?_⟩) se pl
  replace q : sp vs G Q E := by simpa using q
  have ll : (us ++ ([] : List Value)).length = ps.length := by rw [List.append_nil, ← r.length]; exact F.ln _ _ _ _ q
  have bb := hb s1 us J.kIn ll
  rw [List.append_nil] at bb
  refine wpAny_call (codeAny_mono (F.go X.A X.stack s1 G ⟨us, []⟩ us vs Q E hg hr J.env0 bb r q) fun res s' hq => ?_)
  match res, hq with
  | .error e, hq => exact hx pins σ G s1 e s' J hq
  | .ok (.ret u), hq => exact J.after hq
  | .ok .next, hq => exact hq.elim
  | .ok .brk, hq => exact hq.elim
  | .ok .cont, hq => exact hq.elim
end

/-! ### data, empty dicts among them -/
mutual
inductive Dt (K : PySem.W.Frag) (H : Hp) : V → PyData → Prop
  | non : Dt K H .non .none
  | bl (b : Bool) : Dt K H (.bl b) (.bool b)
  | int (i : Int) : Dt K H (.int i) (.int i)
  | str (x : Str) : Dt K H (.str x) (.str x)
  | lst {a : Addr} {vs : List V} {ds : List PyData} : H a = some (.lst vs) → DtAll K H vs ds → Dt K H (.ref a) (.list ds)
  | tup {a : Addr} {vs : List V} {ds : List PyData} : H a = some (.tup vs) → DtAll K H vs ds → Dt K H (.ref a) (.tuple ds)
  | dic {a : Addr} : H a = some (.dK []) → Dt K H (.ref a) (.dict [])
inductive DtAll (K : PySem.W.Frag) (H : Hp) : List V → List PyData → Prop
  | nil : DtAll K H [] []
  | cons {v : V} {vs : List V} {d : PyData} {ds : List PyData} : Dt K H v d → DtAll K H vs ds → DtAll K H (v :: vs) (d :: ds)
end
section
variable {K : PySem.W.Frag} {H H' : Hp}
mutual
theorem Dt.same (e : Same H H') : ∀ {d : PyData} {v : V}, Dt K H v d → Dt K H' v d
  | _, _, .non => .non
  | _, _, .bl b => .bl b
  | _, _, .int i => .int i
  | _, _, .str x => .str x
  | _, _, .lst h a => .lst (e _ _ h) (DtAll.same e a)
  | _, _, .tup h a => .tup (e _ _ h) (DtAll.same e a)
  | _, _, .dic h => .dic (e _ _ h)
theorem DtAll.same (e : Same H H') : ∀ {ds : List PyData} {vs : List V}, DtAll K H vs ds → DtAll K H' vs ds
  | _, _, .nil => .nil
  | _, _, .cons h a => .cons (Dt.same e h) (DtAll.same e a)
end
theorem DtAll.length {ds : List PyData} : ∀ {vs : List V}, DtAll K H vs ds → vs.length = ds.length := by
  induction ds with
  | nil => intro vs h; cases h; rfl
  | cons d ds ih => intro vs h; cases h with | cons h1 h2 => simp [ih h2]
theorem DtAll.append : ∀ {ds es : List PyData} {vs us : List V}, DtAll K H vs ds → DtAll K H us es → DtAll K H (vs ++ us) (ds ++ es)
  | _, _, _, _, .nil, h => h
  | _, _, _, _, .cons a b, h => .cons a (DtAll.append b h)
theorem DtAll.take : ∀ {ds : List PyData} {vs : List V} (n : Nat), DtAll K H vs ds → DtAll K H (vs.take n) (ds.take n)
  | _, _, 0, _ => .nil
  | _, _, _ + 1, .nil => .nil
  | _, _, n + 1, .cons a b => .cons a (DtAll.take n b)
theorem DtAll.drop : ∀ {ds : List PyData} {vs : List V} (n : Nat), DtAll K H vs ds → DtAll K H (vs.drop n) (ds.drop n)
  | _, _, 0, h => h
  | _, _, _ + 1, .nil => .nil
  | _, _, n + 1, .cons _ b => DtAll.drop n b
theorem DtAll.get : ∀ {ds : List PyData} {vs : List V} {i : Nat} {v : V}, DtAll K H vs ds → vs[i]? = some v → ∃ d, ds[i]? = some d ∧ Dt K H v d
  | _, _, i, _, .nil, h => by simp at h
  | _, _, 0, _, .cons a _, h => by simp at h; subst h; exact ⟨_, rfl, a⟩
  | _, _, i + 1, v, .cons _ b, h => by
    obtain ⟨d, h1, h2⟩ := DtAll.get (i := i) (v := v) b (by simpa using h)
    exact ⟨d, by simpa using h1, h2⟩
end

section
variable {X : Cx} {pins : List (Addr × Obj)} {σ : L2.St} {H : Hp} {s : Shared}
/-- what repr's rules of the library ask of a value -/
structure Shows (prog : Program) (w : World) (h : Heap) (u : Value) (d : PyData) : Prop where
  ex : ∃ as bs, Reads h u d as ∧ ReadAtMost h d.depth bs ∧ ReprK prog w bs h d.depth u d.shown
structure ShowsAll (prog : Program) (w : World) (h : Heap) (us : List Value) (ds : List PyData) : Prop where
  ex : ∃ as bs, ReadsAll h us ds as ∧ ReadAtMost h (PyData.depthAll ds) bs ∧ ReprAllK prog w bs h (PyData.depthAll ds) us (PyData.shownAll ds)
theorem dic_at (I : Inv X pins σ H s) {a : Addr} (h : H a = some (.dK [])) : (a == sysModules) = false ∧ ∃ o es ep, s.heap.get? a = some o ∧ o.cls = .type "dict" ∧ o.data = .dict es ep ∧ es.toList = [] := by
  obtain ⟨_, ne, vs, kv, o, es, ep, h1, h2, h3, _, h5, _⟩ := (show ObjOk X.prog X.w H s.heap a (.dK []) from I.hok a _ h)
  cases kv
  refine ⟨ne, o, es, ep, h1, h2.1, h3, ?_⟩
  cases q : es.toList with
  | nil => rfl
  | cons y ys => rw [q] at h5; cases h5
theorem lst_at (I : Inv X pins σ H s) {a : Addr} {vs : List V} (h : H a = some (.lst vs)) : ∃ its n, Vals vs its ∧ s.heap.get? a = some { cls := .type "list", data := .seq its.toArray n } := by
  obtain ⟨_, its, n, r, e⟩ := (show ObjOk X.prog X.w H s.heap a (.lst vs) from I.hok a _ h)
  exact ⟨its, n, r, e⟩
theorem tup_at (I : Inv X pins σ H s) {a : Addr} {vs : List V} (h : H a = some (.tup vs)) : ∃ its o n, Vals vs its ∧ s.heap.get? a = some o ∧ o.cls = .type "tuple" ∧ o.data = .seq its.toArray n := by
  obtain ⟨_, its, r, o, h1, h2, n, h3⟩ := (show ObjOk X.prog X.w H s.heap a (.tup vs) from I.hok a _ h)
  exact ⟨its, o, n, r, h1, h2, h3⟩
mutual
theorem Dt.shows (I : Inv X pins σ H s) : ∀ (d : PyData) (v : V) (u : Value), Dt X.K H v d → RelV v u → d.showable = true → d.shown.length ≤ sizeLine → Shows X.prog X.w s.heap u d
  | .none, _, _, h, r, _, _ => by
    cases h; cases r
    exact ⟨_, [], .none, (fun _ q => nomatch q), by simp only [PyData.shown]; exact .of_is ReprIs.none _ _ _⟩
  | .bool b, _, _, h, r, _, _ => by
    cases h; cases r
    exact ⟨_, [], .bool b, (fun _ q => nomatch q), by simp only [PyData.shown]; exact .of_is (ReprIs.bool b) _ _ _⟩
  | .int i, _, _, h, r, hs, _ => by
    cases h
    obtain ⟨t, rfl⟩ := r
    exact ⟨_, [], .int i t, (fun _ q => nomatch q), by simp only [PyData.shown]; exact .of_is (ReprIs.int t (by simpa [PyData.showable] using hs)) _ _ _⟩
  | .str x, _, _, h, r, _, hz => by
    cases h
    obtain ⟨t, rfl⟩ := r
    exact ⟨_, [], .str x t, (fun _ q => nomatch q), by simp only [PyData.shown]; exact .of_is (ReprIs.str x t (by simpa only [PyData.shown] using hz)) _ _ _⟩
  | .list ds, _, _, h, r, hs, hz => by
    cases h with
    | @lst a vs _ hl ha =>
      cases r
      have hz' : (listText (PyData.shownAll ds)).length ≤ sizeLine := by simpa only [PyData.shown] using hz
      obtain ⟨its, n, rv, e⟩ := lst_at I hl
      obtain ⟨as, bs, r4, rb, rk⟩ := (Dt.showsAll I ds vs its ha rv (by simpa [PyData.showable] using hs) (fun t ht => Nat.le_trans (listText_mem_le ht) hz')).ex
      have rr : Reads s.heap (.ref a) (.list ds) (a :: as) := .list e rfl rfl r4
      have nm : a ∉ bs := not_mem_of_deeper rr (by simp only [PyData.depth]; omega) rb
      refine ⟨_, a :: bs, rr, ReadAtMost.cons rr (by simp only [PyData.depth]; omega) rb, ?_⟩
      simp only [PyData.depth, PyData.shown]
      cases its with
      | nil =>
        cases r4
        simp only [PyData.shownAll, listText_nil]
        exact ReprK.listEmpty e rfl rfl
      | cons y ys => exact ReprK.list e rfl rfl nm (by simpa using rk.length_eq) (fun i z q => rk.item i z (by simpa using q))
  | .tuple ds, _, _, h, r, hs, hz => by
    cases h with
    | @tup a vs _ hl ha =>
      cases r
      have hz' : (tupleText (PyData.shownAll ds)).length ≤ sizeLine := by simpa only [PyData.shown] using hz
      obtain ⟨its, o, n, rv, e1, e2, e3⟩ := tup_at I hl
      obtain ⟨as, bs, r4, rb, rk⟩ := (Dt.showsAll I ds vs its ha rv (by simpa [PyData.showable] using hs) (fun t ht => Nat.le_trans (tupleText_mem_le ht) hz')).ex
      have rr : Reads s.heap (.ref a) (.tuple ds) as := .tuple e1 e2 e3 r4
      have nm : a ∉ bs := not_mem_of_deeper rr (by simp only [PyData.depth]; omega) rb
      refine ⟨_, a :: bs, rr, ReadAtMost.cons rr (by simp only [PyData.depth]; omega) rb, ?_⟩
      simp only [PyData.depth, PyData.shown]
      exact ReprK.tuple e1 e2 e3 nm rk
  | .dict _, _, _, h, r, _, _ => by
    cases h with
    | @dic a hd =>
      cases r
      obtain ⟨ne, o, es, ep, e1, e2, e3, e4⟩ := dic_at I hd
      have rr : Reads s.heap (.ref a) (.dict []) (a :: [] ++ []) := .dict e1 e2 e3 (by rw [e4]; exact .nil) (by rw [e4]; exact .nil)
      refine ⟨_, [a], rr, ReadAtMost.cons (n := 0) rr (Nat.zero_le _) (fun _ q => nomatch q), ?_⟩
      simp only [PyData.depth, PyData.shown, PyData.shownKv]
      exact ReprK.dict (d := 0) e1 e2 e3 ne (fun q => nomatch q) (by rw [e4]; exact .nil)
theorem Dt.showsAll (I : Inv X pins σ H s) : ∀ (ds : List PyData) (vs : List V) (us : List Value), DtAll X.K H vs ds → Vals vs us → PyData.showableAll ds = true → (∀ t ∈ PyData.shownAll ds, t.length ≤ sizeLine) → ShowsAll X.prog X.w s.heap us ds
  | [], _, _, h, r, _, _ => by
    cases h; cases r
    exact ⟨_, [], .nil, (fun _ q => nomatch q), by simp only [PyData.shownAll]; exact .nil⟩
  | d :: ds, _, _, h, r, hs, hz => by
    cases h with
    | cons h1 h2 =>
      cases r with
      | cons r1 r2 =>
        have hs' : d.showable = true ∧ PyData.showableAll ds = true := by simpa [PyData.showableAll] using hs
        obtain ⟨as, bs, a1, a2, a3⟩ := (Dt.shows I d _ _ h1 r1 hs'.1 (hz _ (by simp only [PyData.shownAll]; exact List.mem_cons_self ..))).ex
        obtain ⟨cs, es, c1, c2, c3⟩ := (Dt.showsAll I ds _ _ h2 r2 hs'.2 (fun t ht => hz t (by simp only [PyData.shownAll]; exact List.mem_cons_of_mem _ ht))).ex
        refine ⟨_, bs ++ es, .cons a1 c1, ?_, ?_⟩
        · simp only [PyData.depthAll]
          exact (a2.mono (Nat.le_max_left _ _)).append (c2.mono (Nat.le_max_right _ _))
        · simp only [PyData.depthAll, PyData.shownAll]
          exact .cons ((a3.more fun b hb => List.mem_append_left _ hb).level_le (Nat.le_max_left _ _)) (c3.more_le (fun b hb => List.mem_append_right _ hb) (Nat.le_max_right _ _))
end
end

/-- repr of data -/
def rReprD (K : PySem.W.Frag) : List V → Hp → VK → Prop := fun xs H Q => ∃ v d, xs = [v] ∧ Dt K H v d ∧ d.showable = true ∧ d.depth ≤ 60 ∧ d.shown.length ≤ sizeLine ∧ Q (.str d.shown) H
theorem call_reprD {X : Cx} (hg : X.A.guards = some []) (hu : X.A.units + 64 < cLine) : CallR X (.builtin "repr") (rReprD X.K) := by
  intro pins s σ H xs us Q I r h
  obtain ⟨v, d, rfl, hd, hs, hdep, hz, q⟩ := h
  obtain ⟨u, rfl, ru⟩ := vals1 r
  have keep : ∀ b o, s.heap.get? b = some o → s.heap.get? b = some o := fun _ _ e => e
  have fin : ∀ (h' : Heap) (t : Tok) (tk : Nat), (∀ b o, s.heap.get? b = some o → h'.get? b = some o) → EP X pins σ Q (.str d.shown t) { s with heap := h', toks := tk } :=
    fun h' t tk k => ⟨.str d.shown, H, I.kept k, ⟨t, rfl⟩, q⟩
  cases hd with
  | non => cases ru; simp only [PyData.shown] at fin; exact PySem.P.repr_of_none (fin _ _ _ keep)
  | bl b => cases ru; simp only [PyData.shown] at fin; exact PySem.P.repr_of_bool (fin _ _ _ keep)
  | int i => obtain ⟨t, rfl⟩ := ru; simp only [PyData.shown] at fin; exact PySem.P.repr_of_int (by simpa [PyData.showable] using hs) (fin _ _ _ keep)
  | str x => obtain ⟨t, rfl⟩ := ru; simp only [PyData.shown] at fin; exact PySem.P.repr_of_str (fin _ _ _ keep) (by simpa only [PyData.shown] using hz)
  | @lst a vs ds hl ha =>
    cases ru
    simp only [PyData.depth] at hdep
    simp only [PyData.shown] at fin
    have hz' : (listText (PyData.shownAll ds)).length ≤ sizeLine := by simpa only [PyData.shown] using hz
    obtain ⟨its, n, rv, e⟩ := lst_at I hl
    obtain ⟨as, bs, r4, rb, rk⟩ := (Dt.showsAll I ds vs its ha rv (by simpa [PyData.showable] using hs) (fun t ht => Nat.le_trans (listText_mem_le ht) hz')).ex
    have rr : Reads s.heap (.ref a) (.list ds) (a :: as) := .list e rfl rfl r4
    have nm : a ∉ bs := not_mem_of_deeper rr (by simp only [PyData.depth]; omega) rb
    refine call_repr_slot (T := "list") (by omega) ⟨_, e, rfl⟩ F.slot_list_repr.toG ?_
    cases its with
    | nil =>
      cases r4
      simp only [PyData.shownAll, listText_nil] at fin
      exact call_list_repr_empty ⟨_, e, rfl⟩ e rfl ⟨_, _, rfl, fin _ _ _ keep⟩
    | cons y ys =>
      exact call_list_reprK e rfl rfl nm (by simpa using rk.length_eq) (fun i z q => rk.item i z (by simpa using q)) (A := X.A.in1) hg (fun b _ => Clear.nil b) (by show X.A.units + 1 + _ < cLine; omega) keep (fun h' t tk k => ⟨_, _, rfl, fin h' t tk k⟩) hz'
  | @tup a vs ds hl ha =>
    cases ru
    simp only [PyData.depth] at hdep
    simp only [PyData.shown] at fin
    have hz' : (tupleText (PyData.shownAll ds)).length ≤ sizeLine := by simpa only [PyData.shown] using hz
    obtain ⟨its, o, n, rv, e1, e2, e3⟩ := tup_at I hl
    obtain ⟨as, bs, r4, rb, rk⟩ := (Dt.showsAll I ds vs its ha rv (by simpa [PyData.showable] using hs) (fun t ht => Nat.le_trans (tupleText_mem_le ht) hz')).ex
    have rr : Reads s.heap (.ref a) (.tuple ds) as := .tuple e1 e2 e3 r4
    have nm : a ∉ bs := not_mem_of_deeper rr (by simp only [PyData.depth]; omega) rb
    refine call_repr_slot (T := "tuple") (by omega) ⟨_, e1, e2⟩ F.slot_tuple_repr ?_
    exact call_tuple_reprK e1 e2 e3 nm rk (A := X.A.in1) hg (fun b _ => Clear.nil b) (by show X.A.units + 1 + _ < cLine; omega) keep (fun h' t tk k => ⟨_, _, rfl, fin h' t tk k⟩) hz'
  | @dic a hdk =>
    cases ru
    simp only [PyData.shown, PyData.shownKv] at fin
    obtain ⟨ne, o, es, ep, e1, e2, e3, e4⟩ := dic_at I hdk
    refine call_repr_slot (T := "dict") (by omega) ⟨_, e1, e2⟩ F.slot_dict_repr ?_
    exact call_dict_reprK (ps := []) (d := 0) (as := []) e1 e2 e3 ne (fun q => nomatch q) (by rw [e4]; exact .nil) (A := X.A.in1) hg (fun b _ => Clear.nil b) (by show X.A.units + 1 + _ < cLine; omega) keep (fun h' t tk k => ⟨_, _, rfl, fin h' t tk k⟩) (by simp only [PyData.shown, PyData.shownKv] at hz; exact hz)
end GL
/-! The end of a law whose def is promised where no guard of repr stands. -/
namespace GL
open PySem PySem.Spec PyProof.Rows L2 PySem.W

section
variable {P : Program} {w : World} {K : PySem.W.Frag} {mg mb : Str → Option Value} {k : Nat} {fa a : Addr} {fd : FuncData} {x : Str} {sp : Sp} {s₁ : Shared} {vs : List Value} {ns : List Int}
theorem nil_no {b : Addr} : b ∉ ([] : List Addr) := fun z => nomatch z
/-- the law's call, from one abstract heap in which the script alone may be tracked -/
theorem law_core (KI : K.In s₁.heap) (g1 : s₁.heap.Ns mainGlobals mg) (g2 : s₁.heap.Ns builtinsNs mb) (g3 : ∀ y : Str, y ≠ "__name__" → mb y = bootBuiltins y) (nl : s₁.heap.NoLimit) (hg : s₁.gens = #[])
    (ha : s₁.heap.get? a = some { cls := .type "list", data := .seq vs.toArray }) (hr : Room k callerA)
    (F : ∀ base : Heap, K.In base → base.Ns mainGlobals mg → Fg P w K mg base CX0 k fa fd [x] sp) (bd : ∀ (s : Shared) (u : Value), BindsTo s fd ⟨[u], []⟩ [(x, u)])
    (H : Hp) (on : Only H) (hq : sp [.ref a] H (fun v _ => v = .bl true) fun _ _ _ => False) (ok : HOk P w H s₁.heap) (one : ∀ b, H b ≠ none → b = a) (nk : H a ≠ none → K.lookup a = none) :
    codeAny (model P w) callerA (.call (.ref fa) ⟨[.ref a], []⟩) (fun r s' => r = .ok (.ret (.bool true)) ∧ OldK s₁.heap s'.heap ∧ s'.os = s₁.os ∧ AllBare s'.gens) s₁ := by
  have out : ∀ {b : Addr} {o : Obj}, s₁.heap.get? b = some o → (b = a → H a = none) → (hidT s₁.heap H).get? b = some o := fun {b o} e n => hidT_get e (by
    by_cases z : H b = none
    · exact z
    · have zz := one b z
      rw [zz]; exact n zz)
  have dct : ∀ {b : Addr} {o : Obj} {es : Array DictEntry} {ep : Nat}, s₁.heap.get? b = some o → o.data = .dict es ep → b ≠ a := fun {b o es ep} e d z => by
    rw [z, ha] at e
    cases e
    exact nomatch (show Data.seq vs.toArray _ = Data.dict es ep from d)
  have nsK : ∀ {b : Addr} {m : Str → Option Value}, s₁.heap.Ns b m → (hidT s₁.heap H).Ns b m := fun {b m} q => by
    obtain ⟨o, es, ep, e, d, r⟩ := q
    exact ⟨o, es, ep, out e (fun z => absurd z (dct e d)), d, r⟩
  have KB : K.In (hidT s₁.heap H) := fun b o e => out (KI b o e) fun z => by
    by_cases y : H a = none
    · exact y
    · rw [z, nk y] at e; cases e
  have md : Mod K mg (hidT s₁.heap H) := ⟨KB, nsK g1, ⟨mb, nsK g2, g3⟩, let ⟨mc, c1, c2⟩ := nl; ⟨mc, nsK c1, c2⟩⟩
  have ev : Env0 P w K mg (hidT s₁.heap H) callerA [] s₁ H := ⟨rfl, md, fun _ _ e => of_hidT e, Nat.le_of_eq (hidT_size _ _), trivial, fun b z => absurd z nil_no, ok, .of_eq hg⟩
  refine codeAny_mono ((F _ KB (nsK g1)).go callerA [] s₁ H ⟨[.ref a], []⟩ [.ref a] [.ref a] _ _ rfl hr ev (bd s₁ (.ref a)) (.cons rfl .nil) hq) fun r s' h => ?_
  match r, h with
  | .error e, h => exact h.elim
  | .ok .next, h => exact h.elim
  | .ok .brk, h => exact h.elim
  | .ok .cont, h => exact h.elim
  | .ok (.ret u), ⟨v, G, os, br, un, okG, rv, q⟩ =>
    cases (show v = .bl true from q)
    cases (show u = Value.bool true from rv)
    refine ⟨rfl, OldK.of_keep fun b o e => ?_, os, br⟩
    rcases on b with z | ⟨ob, xs, z⟩
    · exact un.keep b o e z nil_no nil_no
    · have e1 := (ok b _ z).1
      have e2 := (okG b _ (un.frzs b ob _ z)).1
      rw [e] at e1
      cases e1
      exact e2

theorem law_end (KI : K.In s₁.heap) (g1 : s₁.heap.Ns mainGlobals mg) (g2 : s₁.heap.Ns builtinsNs mb) (g3 : ∀ y : Str, y ≠ "__name__" → mb y = bootBuiltins y) (nl : s₁.heap.NoLimit) (hg : s₁.gens = #[])
    (ha : s₁.heap.get? a = some { cls := .type "list", data := .seq vs.toArray }) (hi : IntsAre vs ns) (hz : ns.length ≤ sizeLine) (hr : Room k callerA)
    (F : ∀ base : Heap, K.In base → base.Ns mainGlobals mg → Fg P w K mg base CX0 k fa fd [x] sp) (bd : ∀ (s : Shared) (u : Value), BindsTo s fd ⟨[u], []⟩ [(x, u)])
    (hsp : ∀ H : Hp, Only H → SqL K H a (ns.map V.int) → sp [.ref a] H (fun v _ => v = .bl true) fun _ _ _ => False) :
    codeAny (model P w) callerA (.call (.ref fa) ⟨[.ref a], []⟩) (fun r s' => r = .ok (.ret (.bool true)) ∧ OldK s₁.heap s'.heap ∧ s'.os = s₁.os ∧ AllBare s'.gens) s₁ := by
  have rv := vals_ints hi
  have ll : vs.length = ns.length := hi.length
  cases hk : K.lookup a with
  | some o =>
    have e := KI a o hk
    rw [ha] at e
    cases e
    have no : ∀ {b : Addr} {u : HO}, ((fun _ => none) : Hp) b ≠ some u := fun {b u} z => nomatch (show (none : Option HO) = some u from z)
    exact law_core KI g1 g2 g3 nl hg ha hr F bd (fun _ => none) (fun _ => .inl rfl) (hsp _ (fun _ => .inl rfl) (.inr ⟨_, vs.toArray, _, hk, rfl, rfl, rfl, by rw [List.size_toArray, ll]; exact hz, by simpa using rv⟩))
      (fun b u z => absurd z (no (b := b))) (fun b z => absurd rfl z) (fun z => absurd rfl z)
  | none =>
    have g : ∃ G : Hp, G a = some (.frz { cls := .type "list", data := .seq vs.toArray } (.lst (ns.map V.int))) ∧ ∀ b, b ≠ a → G b = none := ⟨fun b => if b = a then _ else none, if_pos rfl, fun b n => if_neg n⟩
    obtain ⟨G, y1, y2⟩ := g
    have on : Only G := fun b => by
      by_cases e : b = a
      · exact .inr ⟨_, _, e ▸ y1⟩
      · exact .inl (y2 b e)
    refine law_core KI g1 g2 g3 nl hg ha hr F bd G on (hsp G on (.inl (.inr ⟨_, y1⟩))) (fun b u z => ?_) (fun b z => ?_) fun _ => hk
    · by_cases e : b = a
      · subst e
        rw [y1] at z
        cases z
        exact ⟨ha, by rw [List.length_map]; exact hz, vs, _, rv, ha⟩
      · rw [y2 b e] at z; cases z
    · exact Classical.byContradiction fun e => z (y2 b e)
end

/-- the goal that the head leaves -/
theorem walk_g {l : PySem.W.OpenLaw} {n k : Nat} {q : Program} {loose : List Str} {XP : (Str → Option Value) → Heap → Prop} {YP : World → Heap → Prop} {d : DefRec} {K : Params → PySem.W.Frag} {sp : PySem.W.Frag → Sp} {x : Str}
    (hn : l.most = some n) (n2 : n ≤ sizeLine) (nd : d.params.defaults = []) (hr : Room k callerA) (hY : ∀ (w : World) (h : Heap), YP w h → (K w.params).In h)
    (F : ∀ (w : World) (mg : Str → Option Value) (fa : Addr) (h : Heap), (K w.params).In h → h.Ns mainGlobals mg → mg d.name = some (.ref fa) →
      ∃ fd : FuncData, (∀ (s : Shared) (u : Value), BindsTo s fd ⟨[u], []⟩ [(x, u)]) ∧ ∀ base : Heap, (K w.params).In base → base.Ns mainGlobals mg → Fg l.prog w (K w.params) mg base CX0 k fa fd [x] (sp (K w.params)))
    (hsp : ∀ (K : PySem.W.Frag) (H : Hp) (a : Addr) (ns : List Int), ns.length ≤ n → Only H → SqL K H a (ns.map V.int) → sp K [.ref a] H (fun v _ => v = .bl true) fun _ _ _ => False) :
    PySem.W.WalkO q loose XP YP l.row.toRowW d [] (fun f vs => PySem.call f vs) := by
  refine Att.attach_call hn nd fun w s₀ s₁ mg mb fa o pm cd doc a vs ns G Y ho hd hcd hmg hobj hints hlen hg => ?_
  have KI := hY w _ Y
  obtain ⟨fd, hb, hF⟩ := F w mg fa _ KI G.T.g hmg
  exact law_end KI G.T.g G.T.b G.T.builtins G.T.nolimit hg hobj hints (Nat.le_trans hlen n2) hr hF hb fun H on hS => hsp _ H a ns hlen on hS
end GL
namespace KC
open PySem L2 GL
theorem same_new {H : Hp} {p : Addr} (h : H p = none) (o : HO) : Same H (upd H p o) := fun b u q => by rw [upd_ne (ne_of_none q h)]; exact q
theorem same_grow {H H1 : Hp} {p : Addr} (h : H p = none) (e : Same H H1) (o : HO) : Same H (upd H1 p o) := fun b u q => by rw [upd_ne (ne_of_none q h)]; exact e b u q
structure Dfn (P : Program) (w : World) (K : PySem.W.Frag) (mg : Str → Option Value) (base : Heap) (name : Str) (k : Nat) (f : Addr) (fd : FuncData) (ps : List Str) (sp : Sp) : Prop where
  ok : FnOk P w K mg base CX0 k f fd ps sp
  b : L2.Binds K fd ps []
  m : mg name = some (.ref f)
  kp : PySem.W.keepIn K (.ref f) = true
/-- a def promised where no guard of repr stands -/
structure Gfn (P : Program) (w : World) (K : PySem.W.Frag) (mg : Str → Option Value) (base : Heap) (name : Str) (k : Nat) (f : Addr) (fd : FuncData) (ps : List Str) (sp : Sp) : Prop where
  ok : Fg P w K mg base CX0 k f fd ps sp
  b : L2.Binds K fd ps []
  m : mg name = some (.ref f)
  kp : PySem.W.keepIn K (.ref f) = true
/-- len of a list or tuple, the written part by its name -/
def rLenS (K : PySem.W.Frag) : List V → Hp → VK → Prop := fun xs H Q => ∃ (p : Addr) (ys : List V), xs = [.ref p] ∧ (SqL K H p ys ∨ SqT K H p ys) ∧ Q (.int ys.length) H
theorem call_lenS {X : Cx} : CallR X (.builtin "len") (rLenS X.K) := call_len_seq
/-! ### how long a value is when it is shown -/
mutual
def wt : PyData → Nat
  | .none => 4
  | .bool _ => 5
  | .int i => (PyData.int i).shown.length
  | .str x => (PyData.str x).shown.length
  | .list ds => wts ds + 3
  | .tuple ds => wts ds + 3
  | .dict _ => 2
def wts : List PyData → Nat
  | [] => 0
  | d :: ds => wt d + 2 + wts ds
end
theorem len_wts : ∀ ds : List PyData, ds.length ≤ wts ds
  | [] => Nat.le_refl _
  | d :: ds => by have := len_wts ds; simp only [wts, List.length_cons]; omega
theorem mem_wts {d : PyData} : ∀ {ds : List PyData}, d ∈ ds → wt d ≤ wts ds
  | e :: ds, h => by
    simp only [wts]
    rcases List.mem_cons.mp h with rfl | h
    · omega
    · have := mem_wts h; omega
/-! ### the deck: a list of a list of numbers and of how many were drawn -/
/-- the heap without the deck's two lists -/
def Hd (d c : Addr) (H : Hp) : Hp := fun b => if b = d ∨ b = c then none else H b
theorem hd_some {d c b : Addr} {H : Hp} {o : HO} (h : Hd d c H b = some o) : H b = some o ∧ b ≠ d ∧ b ≠ c := by
  unfold Hd at h
  by_cases e : b = d ∨ b = c
  · rw [if_pos e] at h; cases h
  · rw [if_neg e] at h; exact ⟨h, fun z => e (.inl z), fun z => e (.inr z)⟩
theorem hd_of {d c b : Addr} {H : Hp} {o : HO} (h : H b = some o) (n1 : b ≠ d) (n2 : b ≠ c) : Hd d c H b = some o := by
  unfold Hd
  rw [if_neg fun e => e.elim n1 n2]; exact h
theorem hd_sub {d c : Addr} {H : Hp} : Same (Hd d c H) H := fun _ _ h => (hd_some h).1
theorem hd_new {d c p : Addr} {H : Hp} (h : H p = none) (o : HO) : Same (Hd d c H) (Hd d c (upd H p o)) := fun b u q => by
  obtain ⟨q1, q2, q3⟩ := hd_some q
  exact hd_of (same_new h o b u q1) q2 q3
theorem hd_put {d c p : Addr} {H : Hp} (h : p = d ∨ p = c) (o : HO) : Same (Hd d c H) (Hd d c (upd H p o)) := fun b u q => by
  obtain ⟨q1, q2, q3⟩ := hd_some q
  refine hd_of ?_ q2 q3
  rw [upd_ne (fun e => h.elim (fun z => q2 (e.trans z)) fun z => q3 (e.trans z))]; exact q1
theorem hd_same {d c : Addr} {H H' : Hp} (h : Same H H') : Same (Hd d c H) (Hd d c H') := fun b u q => by
  obtain ⟨q1, q2, q3⟩ := hd_some q
  exact hd_of (h b u q1) q2 q3

/-- the deck at d, its cells at c, with at most m numbers drawn -/
structure Deck (H : Hp) (d c : Addr) (m : Nat) : Prop where
  ne : d ≠ c
  ex : ∃ (L : List Int) (n : Nat), H d = some (.lst [.ref c, .int n]) ∧ H c = some (.lst (L.map V.int)) ∧ L.length ≤ 63 ∧ (∀ x ∈ L, 0 ≤ x) ∧ n ≤ m
theorem Deck.same {H H' : Hp} {d c : Addr} {m : Nat} (D : Deck H d c m) (s : Same H H') : Deck H' d c m := by
  obtain ⟨L, n, h1, h2, h3⟩ := D.ex
  exact ⟨D.ne, L, n, s _ _ h1, s _ _ h2, h3⟩
theorem Deck.mono {H : Hp} {d c : Addr} {m k : Nat} (D : Deck H d c m) (h : m ≤ k) : Deck H d c k := by
  obtain ⟨L, n, h1, h2, h3, h4, h5⟩ := D.ex
  exact ⟨D.ne, L, n, h1, h2, h3, h4, Nat.le_trans h5 h⟩
theorem Deck.new {H : Hp} {d c : Addr} {m : Nat} (D : Deck H d c m) {p : Addr} (h : H p = none) (o : HO) : Deck (upd H p o) d c m := D.same (same_new h o)

def spDeck (K : PySem.W.Frag) : Sp := fun vs H Q _ => ∃ (a : Addr) (ns : List Int), vs = [.ref a] ∧ SqL K H a (ns.map V.int) ∧ ns.length ≤ 63 ∧ ∀ d c H', Same H H' → H d = none → H c = none → Deck H' d c 0 → Q (.ref d) H'
def spDraw : Sp := fun vs H Q _ => ∃ (d c : Addr) (many : Int) (m : Nat), vs = [.ref d, .int many] ∧ Deck H d c m ∧ m ≤ 1000000000 ∧ 0 < many ∧ many < 1073741824 ∧
  ∀ (r : Int) (H' : Hp), 0 ≤ r → r < many → Deck H' d c (m + 1) → Same (Hd d c H) (Hd d c H') → Q (.int r) H'
def spOne : Sp := fun vs H Q _ => ∃ (d c a : Addr) (xs : List V) (m : Nat), vs = [.ref d, .ref a] ∧ Deck H d c m ∧ m ≤ 1000000000 ∧ Hd d c H a = some (.lst xs) ∧ 0 < xs.length ∧ xs.length ≤ 100000 ∧
  ∀ (v : V) (H' : Hp), v ∈ xs → Deck H' d c (m + 1) → Same (Hd d c H) (Hd d c H') → Q v H'

def rAbs : List V → Hp → VK → Prop := fun xs H Q => ∃ i : Int, xs = [.int i] ∧ Q (.int (if i < 0 then -i else i)) H
theorem call_absS {X : Cx} : CallR X (.builtin "abs") rAbs := call_abs
theorem cut_mem {xs : List V} {lo hi : Option Int} {x : V} (h : x ∈ cutV xs lo hi) : x ∈ xs := List.mem_of_mem_drop (List.mem_of_mem_take h)

/-! ### machines that are drawn -/
def emp : Hp := fun _ => none
theorem emp_same {H : Hp} : Same emp H := fun _ _ h => nomatch (show (none : Option HO) = some _ from h)
/-- one more thing hidden -/
def Hr (R : Addr) (H : Hp) : Hp := fun b => if b = R then none else H b
theorem hr_some {R b : Addr} {H : Hp} {o : HO} (h : Hr R H b = some o) : H b = some o ∧ b ≠ R := by
  unfold Hr at h
  by_cases e : b = R
  · rw [if_pos e] at h; cases h
  · rw [if_neg e] at h; exact ⟨h, e⟩
theorem hr_of {R b : Addr} {H : Hp} {o : HO} (h : H b = some o) (n : b ≠ R) : Hr R H b = some o := by
  unfold Hr; rw [if_neg n]; exact h
theorem hr_sub {R : Addr} {H : Hp} : Same (Hr R H) H := fun _ _ h => (hr_some h).1
theorem hr_same {R : Addr} {H H' : Hp} (s : Same H H') : Same (Hr R H) (Hr R H') := fun b o h => hr_of (s _ _ (hr_some h).1) (hr_some h).2
theorem hr_put {R d c : Addr} {G : Hp} {o : HO} : Same (Hr R (Hd d c G)) (Hr R (Hd d c (upd G R o))) := fun b u h => by
  obtain ⟨h1, h2⟩ := hr_some h
  obtain ⟨h3, h4, h5⟩ := hd_some h1
  exact hr_of (hd_of (by rw [upd_ne h2]; exact h3) h4 h5) h2
theorem hd_none {d c p : Addr} {H : Hp} (n : H p = none) : Hd d c H p = none := by
  unfold Hd
  split
  · rfl
  · exact n
theorem hd_grow {d c p : Addr} {H G : Hp} (n : Hd d c H p = none) (s : Same (Hd d c H) (Hd d c G)) (o : HO) : Same (Hd d c H) (Hd d c (upd G p o)) := fun b u h => by
  obtain ⟨_, h2, h3⟩ := hd_some h
  exact hd_of (by rw [upd_ne (ne_of_none h n)]; exact (hd_some (s _ _ h)).1) h2 h3
theorem Deck.put {H : Hp} {d c p : Addr} {m : Nat} (D : Deck H d c m) (n1 : p ≠ d) (n2 : p ≠ c) (o : HO) : Deck (upd H p o) d c m := by
  obtain ⟨L, n, h1, h2, h3⟩ := D.ex
  exact ⟨D.ne, L, n, by rw [upd_ne n1.symm]; exact h1, by rw [upd_ne n2.symm]; exact h2, h3⟩
theorem Deck.free {H : Hp} {d c p : Addr} {m : Nat} (D : Deck H d c m) (n : H p = none) : p ≠ d ∧ p ≠ c := by
  obtain ⟨L, k, h1, h2, h3⟩ := D.ex
  exact ⟨(ne_of_none h1 n).symm, (ne_of_none h2 n).symm⟩

def IsRow (l n : Nat) (r : PyData) : Prop := ∃ xs, r = .tuple xs ∧ xs.length = l ∧ ∀ x ∈ xs, x = .none ∨ ∃ i : Int, x = .int i ∧ 0 ≤ i ∧ i < n
def IsMach (l n : Nat) (md : PyData) : Prop := ∃ (rs : List PyData) (bs : List Bool), md = .tuple [.int l, .tuple rs, .tuple (bs.map .bool)] ∧ rs.length = n ∧ bs.length = n ∧ ∀ r ∈ rs, IsRow l n r
def spMach (K : PySem.W.Frag) : Sp := fun vs H Q _ => ∃ (d c : Addr) (l n m : Nat), vs = [.ref d, .int l, .int n] ∧ Deck H d c m ∧ m ≤ 900000000 ∧ 1 ≤ l ∧ l ≤ 4 ∧ 1 ≤ n ∧ n ≤ 400 ∧
  ∀ (p : Addr) (md : PyData) (H' : Hp), IsMach l n md → Dt K (Hd d c H') (.ref p) md → Deck H' d c (m + 4000) → Same (Hd d c H) (Hd d c H') → Q (.ref p) H'
theorem bools_dt {K : PySem.W.Frag} {H : Hp} : ∀ bs : List Bool, DtAll K H (bs.map V.bl) (bs.map .bool)
  | [] => .nil
  | b :: bs => .cons (.bl b) (bools_dt bs)

/-! ### a list against an empty one, a tuple against an empty one -/
def rNe0 : R2 := fun x y H Q => ∃ (a b : Addr) (xs : List V), x = .ref a ∧ y = .ref b ∧ H a = some (.lst xs) ∧ H b = some (.lst []) ∧ Q (.bl (!xs.isEmpty)) H
def rEq0 : R2 := fun x y H Q => ∃ (a b : Addr) (xs : List V), x = .ref a ∧ y = .ref b ∧ H a = some (.tup xs) ∧ H b = some (.tup []) ∧ Q (.bl xs.isEmpty) H
theorem op_ne0 {X : Cx} (hu : X.A.units < cLine) : OpR X (compareOp .NotEq) rNe0 := by
  intro pins s σ H x y v u Q I rx ry h
  obtain ⟨a, b, xs, rfl, rfl, ha, hb, q⟩ := h
  cases rx
  cases ry
  obtain ⟨its, n, rv, e⟩ := lst_at I ha
  obtain ⟨its2, n2, rv2, e2⟩ := lst_at I hb
  cases rv2
  have l1 : s.heap.IsList a its.toArray := ⟨_, e, rfl, n, rfl⟩
  have l2 : s.heap.IsList b ([] : List Value).toArray := ⟨_, e2, rfl, n2, rfl⟩
  cases its with
  | nil =>
    cases rv
    exact SeqAt.RcNeAt.lists (e := fun _ => true) l1 l2 rfl hu (fun j h1 _ => absurd h1 (Nat.not_lt_zero j)) X.prog X.w _ _ ⟨.bl false, H, I, rfl, q⟩
  | cons y ys =>
    cases rv with
    | cons r1 r2 => exact SeqAt.RcNeAt.lists_lengths l1 l2 rfl hu X.prog X.w _ _ ⟨.bl true, H, I, rfl, q⟩
theorem op_eq0 {X : Cx} (hu : X.A.units < cLine) : OpR X (compareOp .Eq) rEq0 := by
  intro pins s σ H x y v u Q I rx ry h
  obtain ⟨a, b, xs, rfl, rfl, ha, hb, q⟩ := h
  cases rx
  cases ry
  obtain ⟨its, o, n, rv, e, ec, ed⟩ := tup_at I ha
  obtain ⟨its2, o2, n2, rv2, e2, ec2, ed2⟩ := tup_at I hb
  cases rv2
  have l1 : s.heap.IsTuple a its.toArray := ⟨_, e, ec, n, ed⟩
  have l2 : s.heap.IsTuple b ([] : List Value).toArray := ⟨_, e2, ec2, n2, ed2⟩
  cases its with
  | nil =>
    cases rv
    exact SeqAt.RcAt.tuples (e := fun _ => true) l1 l2 hu (fun j h1 _ => absurd h1 (Nat.not_lt_zero j)) X.prog X.w _ _ ⟨.bl true, H, I, rfl, q⟩
  | cons y ys =>
    cases rv with
    | cons r1 r2 => exact SeqAt.RcAt.tuples (e := fun _ => true) l1 l2 hu (fun j _ h2 => absurd h2 (Nat.not_lt_zero j)) X.prog X.w _ _ ⟨.bl false, H, I, rfl, q⟩

/-! ### what can be shown -/
mutual
theorem shown_wt {K : PySem.W.Frag} {H : Hp} : ∀ (d : PyData) (v : V), Dt K H v d → d.shown.length ≤ wt d
  | .none, _, _ => by decide +kernel
  | .bool b, _, _ => by cases b <;> decide +kernel
  | .int _, _, _ => Nat.le_refl _
  | .str _, _, _ => Nat.le_refl _
  | .list ds, _, h => by
    cases h with
    | lst _ ha =>
      have h1 := listText_len_le (PyData.shownAll ds)
      have h2 := shownAll_wt ds _ ha
      simp only [PyData.shown, wt]
      omega
  | .tuple ds, _, h => by
    cases h with
    | tup _ ha =>
      have h1 := tupleText_len_le (PyData.shownAll ds)
      have h2 := shownAll_wt ds _ ha
      simp only [PyData.shown, wt]
      omega
  | .dict _, _, h => by
    cases h with
    | dic _ =>
      simp only [PyData.shown, PyData.shownKv, wt]
      decide +kernel
theorem shownAll_wt {K : PySem.W.Frag} {H : Hp} : ∀ (ds : List PyData) (vs : List V), DtAll K H vs ds → ((PyData.shownAll ds).map (·.length)).sum + 2 * (PyData.shownAll ds).length ≤ wts ds
  | [], _, _ => by simp [PyData.shownAll, wts]
  | d :: ds, _, h => by
    cases h with
    | cons h1 h2 =>
      have e1 := shown_wt d _ h1
      have e2 := shownAll_wt ds _ h2
      simp only [PyData.shownAll, wts, List.map_cons, List.sum_cons, List.length_cons]
      omega
end
/-- small, shallow, with ints that can be shown -/
structure Fit (n k : Nat) (d : PyData) : Prop where
  w : wt d ≤ n
  k : d.depth ≤ k
  s : d.showable = true
structure FitAll (n k : Nat) (ds : List PyData) : Prop where
  w : wts ds ≤ n
  k : PyData.depthAll ds ≤ k
  s : PyData.showableAll ds = true
theorem Fit.mono {n k m j : Nat} {d : PyData} (h : Fit n k d) (a : n ≤ m) (b : k ≤ j) : Fit m j d := ⟨Nat.le_trans h.w a, Nat.le_trans h.k b, h.s⟩
theorem Fit.tup {n k : Nat} {ds : List PyData} (h : FitAll n k ds) : Fit (n + 3) (k + 1) (.tuple ds) := ⟨by simp only [wt]; have := h.w; omega, by simp only [PyData.depth]; have := h.k; omega, by simp only [PyData.showable]; exact h.s⟩
theorem Fit.lst {n k : Nat} {ds : List PyData} (h : FitAll n k ds) : Fit (n + 3) (k + 1) (.list ds) := ⟨by simp only [wt]; have := h.w; omega, by simp only [PyData.depth]; have := h.k; omega, by simp only [PyData.showable]; exact h.s⟩
theorem FitAll.nil {k : Nat} : FitAll 0 k [] := ⟨by simp only [wts]; exact Nat.le_refl 0, by simp only [PyData.depthAll]; exact Nat.zero_le _, by simp only [PyData.showableAll]⟩
theorem FitAll.cons {n m k : Nat} {d : PyData} {ds : List PyData} (a : Fit n k d) (b : FitAll m k ds) : FitAll (n + 2 + m) k (d :: ds) :=
  ⟨by simp only [wts]; have := a.w; have := b.w; omega, by simp only [PyData.depthAll]; exact Nat.max_le.mpr ⟨a.k, b.k⟩, by simp only [PyData.showableAll, a.s, b.s, Bool.and_self]⟩
theorem FitAll.mono {n k m j : Nat} {ds : List PyData} (h : FitAll n k ds) (a : n ≤ m) (b : k ≤ j) : FitAll m j ds := ⟨Nat.le_trans h.w a, Nat.le_trans h.k b, h.s⟩
theorem FitAll.append {n m k : Nat} : ∀ {ds es : List PyData}, FitAll n k ds → FitAll m k es → FitAll (n + m) k (ds ++ es)
  | [], es, _, b => b.mono (Nat.le_add_left _ _) (Nat.le_refl _)
  | d :: ds, es, a, b => by
    have w := a.w
    have kk := a.k
    have ss := a.s
    simp only [wts] at w
    simp only [PyData.depthAll] at kk
    simp only [PyData.showableAll, Bool.and_eq_true] at ss
    have r : FitAll (wts ds + m) k (ds ++ es) := FitAll.append ⟨Nat.le_refl _, Nat.le_trans (Nat.le_max_right _ _) kk, ss.2⟩ b
    exact (FitAll.cons (n := wt d) ⟨Nat.le_refl _, Nat.le_trans (Nat.le_max_left _ _) kk, ss.1⟩ r).mono (by omega) (Nat.le_refl _)
theorem FitAll.take {n k : Nat} : ∀ {ds : List PyData} (i : Nat), FitAll n k ds → FitAll n k (ds.take i)
  | ds, 0, _ => by rw [List.take_zero]; exact FitAll.nil.mono (Nat.zero_le _) (Nat.le_refl _)
  | [], i + 1, a => a
  | d :: ds, i + 1, a => by
    have w := a.w
    have kk := a.k
    have ss := a.s
    simp only [wts] at w
    simp only [PyData.depthAll] at kk
    simp only [PyData.showableAll, Bool.and_eq_true] at ss
    have r : FitAll (wts ds) k (ds.take i) := FitAll.take i ⟨Nat.le_refl _, Nat.le_trans (Nat.le_max_right _ _) kk, ss.2⟩
    exact (FitAll.cons (n := wt d) ⟨Nat.le_refl _, Nat.le_trans (Nat.le_max_left _ _) kk, ss.1⟩ r).mono (by omega) (Nat.le_refl _)
theorem FitAll.drop {n k : Nat} : ∀ {ds : List PyData} (i : Nat), FitAll n k ds → FitAll n k (ds.drop i)
  | ds, 0, a => a
  | [], i + 1, a => a
  | d :: ds, i + 1, a => by
    have w := a.w
    have kk := a.k
    have ss := a.s
    simp only [wts] at w
    simp only [PyData.depthAll] at kk
    simp only [PyData.showableAll, Bool.and_eq_true] at ss
    have r : FitAll (wts ds) k (ds.drop i) := FitAll.drop i ⟨Nat.le_refl _, Nat.le_trans (Nat.le_max_right _ _) kk, ss.2⟩
    exact r.mono (by omega) (Nat.le_refl _)
theorem FitAll.mem {n k : Nat} {d : PyData} : ∀ {ds : List PyData}, FitAll n k ds → d ∈ ds → Fit n k d
  | e :: ds, a, h => by
    have w := a.w
    have kk := a.k
    have ss := a.s
    simp only [wts] at w
    simp only [PyData.depthAll] at kk
    simp only [PyData.showableAll, Bool.and_eq_true] at ss
    rcases List.mem_cons.mp h with rfl | h
    · exact ⟨by omega, Nat.le_trans (Nat.le_max_left _ _) kk, ss.1⟩
    · exact FitAll.mem (ds := ds) ⟨by omega, Nat.le_trans (Nat.le_max_right _ _) kk, ss.2⟩ h
theorem Fit.all {n k : Nat} {ds : List PyData} (h : Fit n k (.tuple ds)) : FitAll n k ds ∧ PyData.depthAll ds + 1 ≤ k := by
  have w := h.w
  have kk := h.k
  have ss := h.s
  simp only [wt] at w
  simp only [PyData.depth] at kk
  simp only [PyData.showable] at ss
  exact ⟨⟨by omega, by omega, ss⟩, kk⟩
theorem fit_int {i : Int} {n : Nat} (h : i.natAbs < 10 ^ 41) (hn : 42 ≤ n) {k : Nat} : Fit n k (.int i) := by
  have e := int_text_length_le10 (k := 41) (by decide) h
  have l : wt (.int i) = (toString i).length := by simp only [wt, PyData.shown]; exact ofString_length _
  refine ⟨by rw [l]; omega, by simp only [PyData.depth]; exact Nat.zero_le _, ?_⟩
  simp only [PyData.showable, decide_eq_true_eq]
  have h2 : i.natAbs < 2 ^ 1920 := Nat.lt_trans h (by decide +kernel)
  by_cases z : i.natAbs = 0
  · rw [z]; decide
  · exact (Nat.log2_lt z).mpr h2
theorem fit_non {n k : Nat} (h : 5 ≤ n) : Fit n k .none := ⟨by simp only [wt]; omega, by simp only [PyData.depth]; exact Nat.zero_le _, by simp only [PyData.showable]⟩
theorem fit_bl {n k : Nat} {b : Bool} (h : 5 ≤ n) : Fit n k (.bool b) := ⟨by simp only [wt]; omega, by simp only [PyData.depth]; exact Nat.zero_le _, by simp only [PyData.showable]⟩
theorem fit_dic {n k : Nat} (h : 2 ≤ n) (hk : 1 ≤ k) : Fit n k (.dict []) := ⟨by simp only [wt]; omega, by simp only [PyData.depth, PyData.depthKv]; omega, by simp only [PyData.showable, PyData.showableKv]⟩
theorem fit_str {n k m : Nat} {x : Str} (e : (PyData.str x).shown.length ≤ m) (h : m ≤ n) : Fit n k (.str x) := ⟨by simp only [wt]; omega, by simp only [PyData.depth]; exact Nat.zero_le _, by simp only [PyData.showable]⟩
theorem fit_mach {l n : Nat} {md : PyData} (h : IsMach l n md) (hl : l ≤ 4) (hn : n ≤ 400) : Fit (188 * n + 60) 3 md := by
  obtain ⟨rs, bs, rfl, h1, h2, h3⟩ := h
  have row : ∀ xs : List PyData, (∀ x ∈ xs, x = .none ∨ ∃ i : Int, x = .int i ∧ 0 ≤ i ∧ i < n) → FitAll (44 * xs.length) 0 xs := by
    intro xs
    induction xs with
    | nil => intro _; exact FitAll.nil
    | cons x xs ih =>
      intro hx
      have a : Fit 42 0 x := by
        rcases hx x List.mem_cons_self with rfl | ⟨i, rfl, i0, i1⟩
        · exact fit_non (by decide)
        · exact fit_int (by have : i.natAbs < 400 := by omega
                            omega) (by decide)
      exact (FitAll.cons a (ih fun y hy => hx y (List.mem_cons_of_mem _ hy))).mono (by rw [List.length_cons]; omega) (Nat.le_refl _)
  have rows : ∀ rs : List PyData, (∀ r ∈ rs, IsRow l n r) → FitAll (181 * rs.length) 1 rs := by
    intro rs
    induction rs with
    | nil => intro _; exact FitAll.nil
    | cons r rs ih =>
      intro hr
      obtain ⟨xs, rfl, x1, x2⟩ := hr r List.mem_cons_self
      have a := Fit.tup (row xs x2)
      exact (FitAll.cons a (ih fun y hy => hr y (List.mem_cons_of_mem _ hy))).mono (by rw [List.length_cons, x1]; omega) (Nat.le_refl _)
  have bools : ∀ bs : List Bool, FitAll (7 * bs.length) 1 (bs.map PyData.bool) := by
    intro bs
    induction bs with
    | nil => exact FitAll.nil
    | cons b bs ih => exact (FitAll.cons (n := 5) (fit_bl (by decide)) ih).mono (by rw [List.length_cons]; omega) (Nat.le_refl _)
  have r1 := rows rs h3
  rw [h1] at r1
  have r2 := bools bs
  rw [h2] at r2
  have il : (l : Int).natAbs < 10 ^ 41 := Nat.lt_of_lt_of_le (show (l : Int).natAbs < 5 by omega) (by decide +kernel)
  exact (Fit.tup (FitAll.cons (fit_int (n := 42) il (by decide)) (FitAll.cons (Fit.tup r1) (FitAll.cons (Fit.tup r2) FitAll.nil)))).mono (by omega) (Nat.le_refl _)

/-! ### slices and sums of tuples, one way each -/
def rSlD : V → Option Int → Option Int → Hp → VK → Prop := fun x lo hi H Q => ∃ (a : Addr) (xs : List V), x = .ref a ∧ H a = some (.tup xs) ∧ ∀ (b : Addr) (G : Hp), Same H G → G b = some (.tup (cutV xs lo hi)) → Q (.ref b) G
theorem cut_whole {xs : List V} {lo hi : Option Int} (h : HT.sIx xs.length 0 lo = 0 ∧ HT.sIx xs.length xs.length hi = xs.length) : cutV xs lo hi = xs := by
  unfold cutV
  rw [h.1, h.2, List.drop_zero, Nat.sub_zero, List.take_length]
theorem sl_tupD {X : Cx} : SlR X rSlD := by
  intro pins s σ H x v vl vu lo hi sl Q I rx hs pl pu h
  obtain ⟨a, xs, rfl, ha, q⟩ := h
  exact sl_tupA pins s σ H _ v vl vu lo hi sl Q I rx hs pl pu ⟨a, xs, rfl, .inl (.inl ha), fun hw => q a H (Same.refl H) (by rw [cut_whole hw]; exact ha), fun _ p np => q p _ (same_new np _) upd_same⟩
def rCatD : R2 := fun x y H Q => ∃ (a b : Addr) (xs ys : List V), x = .ref a ∧ y = .ref b ∧ H a = some (.tup xs) ∧ H b = some (.tup ys) ∧ xs.length + ys.length ≤ sizeLine ∧ ∀ (p : Addr) (G : Hp), Same H G → G p = some (.tup (xs ++ ys)) → Q (.ref p) G
theorem op_catD {X : Cx} : OpR X (binaryOp .Add) rCatD := by
  intro pins s σ H x y v u Q I rx ry h
  obtain ⟨a, b, xs, ys, rfl, rfl, ha, hb, hz, q⟩ := h
  refine op_catA pins s σ H _ _ v u Q I rx ry ⟨a, b, xs, ys, rfl, rfl, .inl (.inl ha), .inl (.inl hb), hz, fun e => ?_, fun _ e => ?_, fun _ _ p np => q p _ (same_new np _) upd_same⟩
  · subst e; exact q b H (Same.refl H) hb
  · subst e; exact q a H (Same.refl H) (by rw [List.append_nil]; exact ha)
theorem cut_dt {K : PySem.W.Frag} {H : Hp} {vs : List V} {ds : List PyData} (lo hi : Option Int) (h : DtAll K H vs ds) : ∃ es, DtAll K H (cutV vs lo hi) es ∧ ∀ n k, FitAll n k ds → FitAll n k es :=
  ⟨_, (h.drop _).take _, fun _ _ f => (f.drop _).take _⟩
theorem Deck.tup {H : Hp} {d c b : Addr} {m : Nat} {xs : List V} (D : Deck H d c m) (h : H b = some (.tup xs)) : Hd d c H b = some (.tup xs) := by
  obtain ⟨L, n, h1, h2, _⟩ := D.ex
  exact hd_of h (ne_of h h1 fun z => nomatch z) (ne_of h h2 fun z => nomatch z)

/-- where the top has left a def -/
structure DF (K : PySem.W.Frag) (x : Str) (st : Stmt) (f : Addr) (fd : FuncData) : Prop where
  ns : PySem.W.nsIn K mainGlobals x = some (some (.ref f))
  fn : Fun K x x st f fd
theorem df {K : PySem.W.Frag} {x : Str} {st : Stmt} {f : Addr} {oc : Value} {od an : Option Addr} {osl : Array (Option Value)} {kV doc pm cdv ct : Value} (a : PySem.W.nsIn K mainGlobals x = some (some (.ref f)))
    (l : K.lookup f = some ⟨oc, od, .func (PySem.W.fnOf x x (defArgs st) (defBody st) (defScope st) .none kV doc pm an cdv ct), osl⟩) (c : PySem.W.codeIn K cdv x = true) (k : PySem.W.keepIn K (.ref f) = true) :
    DF K x st f (PySem.W.fnOf x x (defArgs st) (defBody st) (defScope st) .none kV doc pm an cdv ct) := ⟨a, fun_mk l c k⟩
/-- the names that the deck's defs use -/
structure TxC (mg : Str → Option Value) : Prop where
  int : mg "int" = none
  tuple : mg "tuple" = none
  len : mg "len" = none
  abs : mg "abs" = none
  range : mg "range" = none
end KC
/-! t[::-1] of a tuple -/
namespace GL
open PySem PySem.Spec PyProof.Rows L2 HT
theorem back_places (n : Nat) : Builtin.Slice.sliceAdjust none none (-1) (n : Int) = ((n : Int) - 1, -1) ∧ Builtin.Slice.slicePlaces ((n : Int) - 1) (-1) (-1) = n := by
  refine ⟨rfl, ?_⟩
  unfold Builtin.Slice.slicePlaces
  rw [if_neg (by decide)]
  by_cases h : (n : Int) - 1 > -1
  · rw [if_pos h]
    have e : ((n : Int) - 1 - -1 - 1) / (- -1) = (n : Int) - 1 := by
      rw [show ((n : Int) - 1 - -1 - 1) = (n : Int) - 1 by omega, Int.neg_neg, Int.ediv_one]
    rw [e]
    omega
  · rw [if_neg h]
    omega
theorem back_pick (xs : Array Value) : ((List.range xs.size).filterMap fun (k : Nat) => xs[(((xs.size : Nat) : Int) - 1 + (k : Int) * (-1)).toNat]?).toArray = xs.toList.reverse.toArray := by
  have e1 : (fun (k : Nat) => xs[(((xs.size : Nat) : Int) - 1 + (k : Int) * (-1)).toNat]?) = (fun i => xs[i]?) ∘ fun k => xs.size - 1 - k := by
    funext k
    show xs[_]? = xs[xs.size - 1 - k]?
    congr 1
    omega
  have e2 := pick_gen xs 0 xs.size
  have e3 : (fun (m : Nat) => xs[(((0 : Nat) : Int) + (m : Int) * 1).toNat]?) = fun i => xs[i]? := by
    funext m
    congr 1
    omega
  rw [e3] at e2
  have e4 : (List.range xs.size).filterMap (fun i => xs[i]?) = xs.toList := by
    have e5 : (List.range xs.size).filterMap (fun i => xs[i]?) = List.take xs.size xs.toList := by simpa using congrArg Array.toList e2
    rw [e5]
    exact List.take_of_length_le (by simp)
  rw [e1, ← List.filterMap_map, PySem.W.krv_range, List.filterMap_reverse, e4]
section
variable {prog : Program} {w : World} {A : Around} {E : Value → Shared → Prop} {s : Shared}
theorem back_applied {sl : Addr} {vc : Value} {n : Nat} {Q : Int × Int × Nat → Shared → Prop} (hs : s.heap.IsSliceOf sl .none .none vc) (pc : IsPart vc (some (-1))) (h : Q (((n : Int) - 1), -1, n) s) :
    wpAny (model prog w) A (Builtin.Slice.sliceApplied (.ref sl) (pure (n : Int))) Q E s := by
  obtain ⟨os, ho, hc, hd⟩ := id hs
  unfold Builtin.Slice.sliceApplied Builtin.Slice.sliceFields
  refine wpAny_bind (wpAny_bind (wpAny_field ho hd (x := .none) rfl (wpAny_bind (wpAny_field ho hd (x := .none) rfl (wpAny_bind (wpAny_field ho hd (x := vc) rfl (wpAny_pure ?_)))))))
  refine wpAny_bind (slicePart_ pc ?_)
  show wpAny _ _ (if ((-1 : Int) == 0) = true then _ else _) _ _ s
  rw [if_neg (by decide)]
  refine wpAny_bind (slicePart_ .none (wpAny_bind (slicePart_ .none (wpAny_bind (wpAny_pure ?_)))))
  show wpAny _ _ (match Builtin.Slice.sliceAdjust none none (-1) (n : Int) with | (lo, hi) => pure (lo, (-1 : Int), Builtin.Slice.slicePlaces lo hi (-1))) _ _ s
  rw [(back_places n).1]
  show wpAny _ _ (pure (((n : Int) - 1), (-1 : Int), Builtin.Slice.slicePlaces ((n : Int) - 1) (-1) (-1))) _ _ s
  rw [(back_places n).2]
  exact wpAny_pure h
theorem back_item {t sl : Addr} {xs : Array Value} {vc : Value} {Q : Value → Shared → Prop} (ht : IsTup s.heap t xs) (hs : s.heap.IsSliceOf sl .none .none vc) (pc : IsPart vc (some (-1)))
    (h : Q (.ref s.heap.objs.size) { s with heap := s.heap.push { cls := .type "tuple", data := .seq xs.toList.reverse.toArray } }) (hz : xs.size ≤ sizeLine) : wpAny (model prog w) A (getItem (.ref t) (.ref sl)) Q E s := by
  have ok : sizeOk (.seq xs.toList.reverse.toArray) := by
    show xs.toList.reverse.toArray.size ≤ sizeLine
    rw [List.size_toArray, List.length_reverse, Array.length_toList]
    exact hz
  obtain ⟨os, ho, hc, hd⟩ := id hs
  have ty : s.TypeIs (.ref sl) "slice" := ⟨os, ho, hc⟩
  unfold getItem
  try with_reducible refine wpAny_holding ?_
  first | refine wpAny_bind (wpAny_pure ?_) | skip
  refine wpAny_bind (wpAny_sequenceKey ht.typeIs (by decide) (wpAny_bind (wpAny_callSpecial?_slot (name := Str.ofString "__getitem__") ht.typeIs PyProof.Rows.slot_tuple_getitem
    (wpAny_call_entry PyProof.Rows.slot_tuple_getitem ht.typeIs entry_tuple_getitem ?_ (args_tuple_getitem _ _)))))
  show wpAny _ _ (Builtin.Tuple.tupleItemsOf (.ref t) >>= _) _ _ s
  refine wpAny_bind (tupleItemsOf_ ht (wpAny_bind (wpAny_typeOf ty ?_)))
  rw [if_pos (by decide)]
  refine wpAny_bind (back_applied hs pc ?_)
  have no : ¬ ((((xs.size : Nat) : Int) - 1 == 0 && (-1 : Int) == 1 && xs.size == xs.size) = true) := by
    rw [show ((-1 : Int) == 1) = false from rfl, Bool.and_false, Bool.false_and]
    exact Bool.false_ne_true
  show wpAny _ _ (if ((((xs.size : Nat) : Int) - 1 == 0 && (-1 : Int) == 1 && xs.size == xs.size) = true) then _ else _) _ _ s
  rw [if_neg no, back_pick]
  first
    | exact wpAny_bind (m := Builtin.Tuple.tupleExact _) (wpAny_newObj_type (wpAny_pure ⟨_, rfl, wpAny_pure h⟩) ok)
    | exact wpAny_bind (m := Builtin.Tuple.tupleExact _) (wpAny_newObj_type (wpAny_bind (wpAny_pure (wpAny_pure ⟨_, rfl, wpAny_pure h⟩))) ok)
    | exact wpAny_bind (wpAny_bind (m := Builtin.Tuple.tupleExact _) (wpAny_newObj_type (wpAny_pure (wpAny_pure ⟨_, rfl, wpAny_pure h⟩)) ok))
    | exact wpAny_bind (wpAny_bind (m := Builtin.Tuple.tupleExact _) (wpAny_newObj_type (wpAny_pure ⟨_, rfl, wpAny_pure h⟩) ok))
end
section
variable {X : Cx}
def tRevT (te : TE) : TE := fun σ H Q => te σ H fun x G => ∃ (a : Addr) (xs : List V), x = .ref a ∧ G a = some (.tup xs) ∧ ∀ p, G p = none → Q (.ref p) (upd G p (.tup xs.reverse))
theorem Vals.rev : ∀ {xs : List V} {us : List Value}, Vals xs us → Vals xs.reverse us.reverse
  | _, _, .nil => .nil
  | _, _, .cons r t => by
    rw [List.reverse_cons, List.reverse_cons]
    exact (Vals.rev t).append (.cons r .nil)
theorem pe_revT {e : Expr} {te : TE} {k : Nat} {p1 p2 p3 pos : Pos} (he : PE X e te) : PE X (.Subscript e (.Slice none none (some (.UnaryOp .USub (.Constant (.int 1) k p1) p2)) p3) pos) (tRevT te) := by
  refine ⟨fun pins s σ H Q I h => Subscript_ (thn (he.run pins s σ H _ I h) fun v s1 ⟨x, H1, I1, r1, a, xs, ex, hx, q⟩ => ?_)⟩
  subst ex
  cases r1
  have st : PO X (some (.UnaryOp .USub (.Constant (.int 1) k p1) p2)) (tPart (tUn (rU fun i => .int (-i)) (tC (.int 1)))) := po_some (pe_un un_neg pe_int)
  refine wpAny_Slice (thn (po_none.run pins s1 σ H1 (fun o G => o = none ∧ G = H1) I1 ⟨rfl, rfl⟩) fun vl s2 ⟨o2, H2, I2, pl, el, e2⟩ => ?_)
  cases el
  cases e2
  refine thn (po_none.run pins s2 σ H1 (fun o G => o = none ∧ G = H1) I2 ⟨rfl, rfl⟩) fun vu s3 ⟨o3, H3, I3, pu, eu, e3⟩ => ?_
  cases eu
  cases e3
  refine thn (st.run pins s3 σ H1 (fun o G => o = some (-1) ∧ G = H1) I3 ⟨1, rfl, -1, rfl, rfl, rfl⟩) fun vc s4 ⟨o4, H4, I4, pc, ec, e4⟩ => ?_
  cases ec
  cases e4
  have J : Inv X pins σ H1 { s4 with heap := s4.heap.push { cls := .type "slice", data := .fields #[vl, vu, vc] } } := I4.kept (t' := s4.toks) fun b ob z => Heap.get?_push_of_some _ z
  obtain ⟨its, o, n, r, t1, t2, t3⟩ := tup_at J hx
  have hz : its.length ≤ sizeLine := by
    obtain ⟨z, _⟩ := (show ObjOk X.prog X.w H1 _ a (.tup xs) from J.hok a _ hx)
    rw [← r.length]; exact z
  have tt : IsTup { s4 with heap := s4.heap.push { cls := .type "slice", data := .fields #[vl, vu, vc] } }.heap a its.toArray := ⟨o, t1, t2, n, t3⟩
  cases pl
  cases pu
  show wpAny (model X.prog X.w) X.A (subscriptTail e (.Slice none none (some (.UnaryOp .USub (.Constant (.int 1) k p1) p2)) p3) (.ref a) (.ref s4.heap.objs.size)) (EP X pins σ Q) X.xe { s4 with heap := s4.heap.push { cls := .type "slice", data := .fields #[.none, .none, vc] } }
  refine tail_any (ops := [.ref a, .ref s4.heap.objs.size]) tt.typeIs PyProof.Rows.slot_tuple_getitem.lookup ?_ (by with_unfolding_all rfl)
  refine back_item tt (Heap.IsSliceOf.new _ .none .none vc) pc ?_ (by rw [List.size_toArray]; exact hz)
  refine ⟨.ref _, _, J.laid (t' := s4.toks) (o := .tup xs.reverse) (fun b ob z => Heap.get?_push_of_some _ z) (Nat.le_refl _) ?_, rfl, q _ (J.hok.fresh (Nat.le_refl _))⟩
  refine ⟨by rw [List.length_reverse, r.length]; exact hz, its.reverse, Vals.rev r, ⟨_, Heap.get?_push_size _ rfl, rfl, _, rfl⟩⟩
end
end GL
/-! Own layer: zip of two or three, enumerate, over lists, tuples and texts in any mix; what is walked stands still. -/
namespace GZ
open PySem PySem.Spec PyProof.Rows L2

/-- the kinds of what is walked -/
inductive Kd where
  | lst
  | tup
  | str
def sgs (z : Str) : List V := z.cps.toList.map fun c => V.str ⟨#[c]⟩
/-- v is a list, a tuple, a text of the items xs -/
def Src (K : PySem.W.Frag) (H : Hp) : Kd → V → List V → Prop
  | .lst, v, xs => ∃ a, v = .ref a ∧ SqL K H a xs
  | .tup, v, xs => ∃ a, v = .ref a ∧ SqT K H a xs
  | .str, v, xs => ∃ z, v = .str z ∧ xs = sgs z
/-- the iterator at it, ahead of the item i -/
def StI (h : Heap) : Kd → V → Addr → Nat → Prop
  | .lst, v, it, i => ∃ a, v = .ref a ∧ h.IsListIter it a i
  | .tup, v, it, i => ∃ a, v = .ref a ∧ h.IsTupleIter it a i
  | .str, v, it, i => ∃ z t, v = .str z ∧ h.IsStrIter it (strIterType z) z t i
theorem StI.keep {h h' : Heap} {k : Kd} {v : V} {it : Addr} {i : Nat} (st : StI h k v it i) (q : ∀ o, h.get? it = some o → h'.get? it = some o) : StI h' k v it i := by
  cases k with
  | lst => obtain ⟨a, e, s⟩ := st; exact ⟨a, e, s.at q⟩
  | tup => obtain ⟨a, e, s⟩ := st; exact ⟨a, e, s.at q⟩
  | str => obtain ⟨z, t, e, o, ho, r⟩ := st; exact ⟨z, t, e, o, q o ho, r⟩
theorem StI.obj {h : Heap} {k : Kd} {v : V} {it : Addr} {i : Nat} (st : StI h k v it i) : ∃ o, h.get? it = some o ∧ ∀ v, o.data ≠ .cell v := by
  cases k with
  | lst => obtain ⟨a, e, o, ho, _, d⟩ := st; exact ⟨o, ho, fun v z => by rw [d] at z; cases z⟩
  | tup => obtain ⟨a, e, o, ho, _, d⟩ := st; exact ⟨o, ho, fun v z => by rw [d] at z; cases z⟩
  | str => obtain ⟨z, t, e, o, ho, _, d⟩ := st; exact ⟨o, ho, fun v z => by rw [d] at z; cases z⟩
theorem vals_back {xs : List V} {us : List Value} (r : Vals xs us) {j : Nat} {u : Value} (h : us[j]? = some u) : ∃ y, xs[j]? = some y ∧ RelV y u := by
  have l := r.length
  have jl : j < us.length := (List.getElem?_eq_some_iff.mp h).1
  obtain ⟨y, hy⟩ : ∃ y, xs[j]? = some y := ⟨_, List.getElem?_eq_getElem (by omega)⟩
  obtain ⟨u', h1, h2⟩ := r.get hy
  rw [h] at h1
  cases h1
  exact ⟨y, hy, h2⟩
section
variable {X : Cx} {pins : List (Addr × Obj)} {σ : L2.St} {H : Hp} {s : Shared}
/-- what its iterator draws -/
theorem src_draws (I : Inv X pins σ H s) (hc : X.calm = true) {k : Kd} {v : V} {xs : List V} {it : Addr} {i : Nat} (h : Src X.K H k v xs) (st : StI s.heap k v it i) (ne : ∀ a, v = .ref a → a ≠ it) :
    ∃ (fp : List Addr) (P : Nat → Value → Prop) (St : Nat → Heap → Prop), Draws X.prog X.w X.A.in1 it fp xs.length P St ∧ St i s.heap ∧ it ∈ fp ∧ (∀ b ∈ fp, b = it ∨ v = .ref b) ∧
      (∀ j x, P j x → ∃ y, xs[j]? = some y ∧ RelV y x) ∧ ∀ j h', St j h' → StI h' k v it j := by
  have hh : X.A.in1.handled = none := I.ok.hd hc
  cases k with
  | lst =>
    obtain ⟨a, rfl, hq⟩ := h
    obtain ⟨a', e, st⟩ := st
    cases e
    obtain ⟨its, rv, p, hz⟩ := I.list hq
    have D := Draws.list (prog := X.prog) (w := X.w) (A := X.A.in1) hh it a (ne a rfl) its.toArray
    rw [show its.toArray.size = xs.length by rw [List.size_toArray, rv.length]] at D
    exact ⟨_, _, _, D, ⟨st, p.isList⟩, List.mem_cons_self, fun b hb => by simpa [eq_comm] using hb, fun j x hx => vals_back rv (by simpa using hx), fun j h' q => ⟨a, rfl, q.1⟩⟩
  | tup =>
    obtain ⟨a, rfl, hq⟩ := h
    obtain ⟨a', e, st⟩ := st
    cases e
    obtain ⟨its, rv, p, hz⟩ := I.tuple hq
    have D := Draws.tuple (prog := X.prog) (w := X.w) (A := X.A.in1) hh it a (ne a rfl) its.toArray
    rw [show its.toArray.size = xs.length by rw [List.size_toArray, rv.length]] at D
    exact ⟨_, _, _, D, ⟨st, p⟩, List.mem_cons_self, fun b hb => by simpa [eq_comm] using hb, fun j x hx => vals_back rv (by simpa using hx), fun j h' q => ⟨a, rfl, q.1⟩⟩
  | str =>
    obtain ⟨z, rfl, rfl⟩ := h
    obtain ⟨z', t, e, st⟩ := st
    cases e
    have D := Draws.text (prog := X.prog) (w := X.w) (A := X.A.in1) hh it z t
    rw [show z.cps.size = (sgs z).length by unfold sgs; rw [List.length_map, Array.length_toList]] at D
    refine ⟨_, _, _, D, st, List.mem_cons_self, fun b hb => .inl (by simpa using hb), ?_, fun j h' q => ⟨z, t, rfl, q⟩⟩
    rintro j x ⟨c, u, h1, rfl⟩
    refine ⟨.str ⟨#[c]⟩, ?_, ⟨u, rfl⟩⟩
    unfold sgs
    rw [List.getElem?_map, Array.getElem?_toList, h1]
    rfl
/-- how its iterator begins -/
theorem src_begins (I : Inv X pins σ H s) {k : Kd} {v : V} {u : Value} {xs : List V} (h : Src X.K H k v xs) (r : RelV v u) :
    ∃ (o : Obj) (Hb : Heap → Prop), Begins u o Hb ∧ Hb s.heap ∧ (∀ (it : Addr) (h' : Heap), h'.get? it = some o → StI h' k v it 0) ∧ ∀ a, v = .ref a → a < s.heap.objs.size := by
  cases k with
  | lst =>
    obtain ⟨a, rfl, hq⟩ := h
    cases r
    obtain ⟨its, rv, p, hz⟩ := I.list hq
    exact ⟨_, _, begins_list a its.toArray, p.isList, fun it h' e => ⟨a, rfl, _, e, rfl, rfl⟩, fun b e => by cases e; exact p.lt⟩
  | tup =>
    obtain ⟨a, rfl, hq⟩ := h
    cases r
    obtain ⟨its, rv, p, hz⟩ := I.tuple hq
    have la : a < s.heap.objs.size := by
      obtain ⟨o, ho, _⟩ := id p
      exact Heap.lt_size ho
    exact ⟨_, _, begins_tuple a its.toArray, p, fun it h' e => ⟨a, rfl, _, e, rfl, rfl⟩, fun b e => by cases e; exact la⟩
  | str =>
    obtain ⟨z, rfl, rfl⟩ := h
    obtain ⟨t, rfl⟩ := r
    exact ⟨_, _, begins_text z t, trivial, fun it h' e => ⟨z, t, rfl, _, e, rfl, rfl⟩, fun b e => nomatch e⟩
end

theorem out5 {n a : Nat} (h : a < n) : a ∉ [n + 4, n + 2, n + 3, n, n + 1] := by
  simp only [List.mem_cons, List.not_mem_nil, or_false]
  omega
theorem le5 {n a : Nat} (h : a ∈ [n + 4, n + 2, n + 3, n, n + 1]) : n ≤ a := by
  simp only [List.mem_cons, List.not_mem_nil, or_false] at h
  omega
theorem out6 {n a : Nat} (h : a < n) : a ∉ [n + 5, n + 3, n + 4, n, n + 1, n + 2] := by
  simp only [List.mem_cons, List.not_mem_nil, or_false]
  omega
theorem le6 {n a : Nat} (h : a ∈ [n + 5, n + 3, n + 4, n, n + 1, n + 2]) : n ≤ a := by
  simp only [List.mem_cons, List.not_mem_nil, or_false] at h
  omega
theorem out2 {n a : Nat} (h : a < n) : a ∉ [n + 1, n] := by
  simp only [List.mem_cons, List.not_mem_nil, or_false]
  omega
theorem le2 {n a : Nat} (h : a ∈ [n + 1, n]) : n ≤ a := by
  simp only [List.mem_cons, List.not_mem_nil, or_false] at h
  omega
/-- n turns while G stands; turn i gives a new tuple of what stands in row i -/
def ItN (n : Nat) (G : Hp → Prop) (row : Nat → Option (List V)) : It :=
  ⟨fun i H => G H ∧ i < n, fun i H v H' => ∃ T xs, v = .ref T ∧ H T = none ∧ H' = upd H T (.tup xs) ∧ row i = some xs, fun i H => G H ∧ i = n⟩
theorem walk_N {n : Nat} {G : Hp → Prop} {row : Nat → Option (List V)} : Walk (ItN n G row) n G (fun i H v H' => ∃ T xs, v = .ref T ∧ H T = none ∧ H' = upd H T (.tup xs) ∧ row i = some xs) :=
  ⟨fun _ _ hi q => ⟨q, hi⟩, fun _ q => ⟨q, rfl⟩, fun _ _ _ _ _ _ y => y⟩
/-- such an iterator by the library's walks of tuples -/
theorem turn_N {P : Program} {w : World} {K : PySem.W.Frag} {elts : List Expr} {kk : Nat} {tpos : Pos} {n : Nat} {G : Hp → Prop} {row : Nat → Option (List V)} {fp : List Addr} {z : Addr} {tn : Nat → Heap → Prop} (mem : z ∈ fp)
    (obj : ∀ i h, tn i h → ∀ b ∈ fp, ∃ o, h.get? b = some o ∧ ∀ v, o.data ≠ .cell v) (keep : ∀ i h h', tn i h → (∀ b ∈ fp, ∀ o, h.get? b = some o → h'.get? b = some o) → tn i h')
    (self : ∀ (A : Around) (i : Nat) (s : Shared) (Q : Value → Shared → Prop) (E : Value → Shared → Prop), tn i s.heap → Q (.ref z) s → wpAny (model P w) A (pyIter (.ref z)) Q E s)
    (W : ∀ (X : Cx), X.prog = P → X.w = w → X.K = K → X.calm = true → ∀ (i : Nat) (pins : List (Addr × Obj)) (s : Shared) (σ : L2.St) (H : Hp), Inv X pins σ H s → G H → tn i s.heap →
      ∃ (fpW wr : List Addr) (Pt : Nat → Array Value → Prop) (St : Nat → Heap → Prop) (Mid : Nat → Addr → Heap → Prop), WalksT P w X.A z fpW wr n Pt St Mid ∧ St i s.heap ∧ (∀ b ∈ wr, b ∈ fp) ∧ (∀ j h, St j h → tn j h) ∧
        ∀ j vals, Pt j vals → ∃ xs, row j = some xs ∧ Vals xs vals.toList ∧ xs.length ≤ sizeLine) : Turn P w K (.Tuple elts kk tpos) (ItN n G row) fp z tn where
  mem := mem
  obj := obj
  keep := keep
  self := self
  item := by
    intro X hP hw hK hc i pins s σ H E I hf st hg
    obtain ⟨hG, hi⟩ := hg
    obtain ⟨fpW, wr, Pt, St, Mid, Wk, st0, hwr, hst, hpt⟩ := W X hP hw hK hc i pins s σ H I hG st
    subst hP hw hK
    refine Wk.item i s _ _ hi st0 fun T vals h' tk hP hT hTup mid hk => ⟨_, rfl, Wk.go elts kk tpos i T { s with heap := h', toks := tk } _ _ mid fun h'' st'' hk'' => ?_⟩
    obtain ⟨xs, hr, hv, hl⟩ := hpt i vals hP
    have hap := Wk.apart i T h' mid
    obtain ⟨o, ho, hcl, nn, hd⟩ := hTup
    have new : ObjOk X.prog X.w (upd H T (.tup xs)) h'' T (.tup xs) := ⟨hl, vals.toList, hv, ⟨o, hk'' T o hap ho, hcl, nn, by simpa using hd⟩⟩
    have I1 : Inv X pins σ (upd H T (.tup xs)) { s with heap := h'', toks := tk } :=
      I.turnedNew (ch := fp) (fun b ob hb q => hk'' b ob (fun z => hb (hwr b z)) (hk b ob (fun z => hb (hwr b z)) q)) hf hT new
    refine ⟨.ref T, _, I1, rfl, ⟨T, xs, rfl, I.hok.fresh hT, rfl, hr⟩, hst _ _ st'', fun b hb => ?_⟩
    obtain ⟨ob, hob, _⟩ := obj i s.heap st b hb
    have hlt : b < s.heap.objs.size := Heap.lt_size hob
    rw [upd_ne (Nat.ne_of_lt (Nat.lt_of_lt_of_le hlt hT))]
    exact (hf b hb).1
  done := by
    intro X hP hw hK hc i pins s σ H E I hf st hg
    obtain ⟨hG, hi⟩ := hg
    obtain ⟨fpW, wr, Pt, St, Mid, Wk, st0, hwr, hst, hpt⟩ := W X hP hw hK hc i pins s σ H I hG st
    subst hP hw hK hi
    exact Wk.done s _ _ st0 fun h' tk hk => ⟨rfl, I.turnedL (t' := tk) (ch := fp) (fun b ob hb q => hk b ob (fun z => hb (hwr b z)) q) hf⟩

/-! ### zip of two -/
def row2 (xs ys : List V) (i : Nat) : Option (List V) := match xs[i]?, ys[i]? with
  | some x, some y => some [x, y]
  | _, _ => none
theorem row2_of {xs ys : List V} {i : Nat} {r : List V} (h : row2 xs ys i = some r) : ∃ x y, xs[i]? = some x ∧ ys[i]? = some y ∧ r = [x, y] := by
  unfold row2 at h
  split at h
  · rename_i x y h1 h2
    cases h
    exact ⟨x, y, h1, h2, rfl⟩
  · cases h
def It2 (K : PySem.W.Frag) (k1 : Kd) (v1 : V) (xs : List V) (k2 : Kd) (v2 : V) (ys : List V) : It := ItN (min xs.length ys.length) (fun H => Src K H k1 v1 xs ∧ Src K H k2 v2 ys) (row2 xs ys)
theorem turn_z2 {P : Program} {w : World} {K : PySem.W.Frag} {elts : List Expr} {kk : Nat} {tpos : Pos} {k1 k2 : Kd} {v1 v2 : V} {xs ys : List V} {z TI TO i1 i2 : Addr} (nd : [z, TI, TO, i1, i2].Nodup) (a1 : ∀ a, v1 = .ref a → a ∉ [z, TI, TO, i1, i2]) (a2 : ∀ a, v2 = .ref a → a ∉ [z, TI, TO, i1, i2]) :
    Turn P w K (.Tuple elts kk tpos) (It2 K k1 v1 xs k2 v2 ys) [z, TI, TO, i1, i2] z (fun i h => IsZip h z TI TO .none ∧ IsTupOf2 h TI (.ref i1) (.ref i2) ∧ (∃ x y, IsTupOf2 h TO x y) ∧ StI h k1 v1 i1 i ∧ StI h k2 v2 i2 i) := by
  refine turn_N (by simp) (fun i h st c hc => ?_) (fun i h h' st k => ?_) (fun A i s Q E st q => wpAny_pyIter_zip st.1 q) (fun X hP hw hK hc i pins s σ H I hG st => ?_)
  · obtain ⟨hz, hTI, ⟨x, y, hTO⟩, s1, s2⟩ := st
    have e' : c = z ∨ c = TI ∨ c = TO ∨ c = i1 ∨ c = i2 := by simpa using hc
    rcases e' with q | q | q | q | q
    · rw [q]; exact ⟨_, hz, fun v q => nomatch q⟩
    · rw [q]; exact ⟨_, hTI, fun v q => nomatch q⟩
    · rw [q]; exact ⟨_, hTO, fun v q => nomatch q⟩
    · rw [q]; exact s1.obj
    · rw [q]; exact s2.obj
  · obtain ⟨hz, hTI, ⟨x, y, hTO⟩, s1, s2⟩ := st
    exact ⟨k z (by simp) _ hz, k TI (by simp) _ hTI, ⟨x, y, k TO (by simp) _ hTO⟩, s1.keep fun o q => k i1 (by simp) o q, s2.keep fun o q => k i2 (by simp) o q⟩
  · subst hP hw hK
    obtain ⟨hz, hTI, ⟨x, y, hTO⟩, s1, s2⟩ := st
    simp only [List.nodup_cons, List.mem_cons, List.not_mem_nil, or_false, not_or, not_false_eq_true, List.nodup_nil, and_true] at nd
    simp only [List.mem_cons, List.not_mem_nil, or_false, not_or] at a1 a2
    obtain ⟨⟨n1, n2, n3, n4⟩, ⟨n5, n6, n7⟩, ⟨n8, n9⟩, n10⟩ := nd
    obtain ⟨f1, P1, S1, D1, t1, m1, g1, p1, q1⟩ := src_draws I hc hG.1 s1 (fun a e => (a1 a e).2.2.2.1)
    obtain ⟨f2, P2, S2, D2, t2, m2, g2, p2, q2⟩ := src_draws I hc hG.2 s2 (fun a e => (a2 a e).2.2.2.2)
    have out1 : ∀ b, b ≠ i1 → (b = z ∨ b = TO ∨ b = i2) → b ∉ f1 := fun b ne hb hm => by
      rcases g1 b hm with e | e
      · exact ne e
      · rcases hb with rfl | rfl | rfl
        · exact (a1 _ e).1 rfl
        · exact (a1 _ e).2.2.1 rfl
        · exact (a1 _ e).2.2.2.2 rfl
    have out2 : ∀ b, b ≠ i2 → (b = z ∨ b = TO ∨ b = i1) → b ∉ f2 := fun b ne hb hm => by
      rcases g2 b hm with e | e
      · exact ne e
      · rcases hb with rfl | rfl | rfl
        · exact (a2 _ e).1 rfl
        · exact (a2 _ e).2.2.1 rfl
        · exact (a2 _ e).2.2.2.1 rfl
    have S : ZipSep2 z TI TO i1 i2 f1 f2 := ⟨Ne.symm n1, Ne.symm n2, n5, n6, m1, out1 z n3 (.inl rfl), out1 TO n8 (.inr (.inl rfl)), n7, m2, out2 z n4 (.inl rfl), out2 TO n9 (.inr (.inl rfl)), out2 i1 n10 (.inr (.inr rfl)), out1 i2 (Ne.symm n10) (.inr (.inr rfl))⟩
    refine ⟨_, _, _, _, _, WalksT.zipD2 S D1 D2, ⟨hz, hTI, ⟨x, y, hTO⟩, t1, t2⟩, fun b hb => ?_, fun j h st => ⟨st.1, st.2.1, st.2.2.1, q1 _ _ st.2.2.2.1, q2 _ _ st.2.2.2.2⟩, ?_⟩
    · simp only [List.mem_cons, List.not_mem_nil, or_false] at hb ⊢
      rcases hb with e | e | e | e
      · exact .inl e
      · exact .inr (.inr (.inl e))
      · exact .inr (.inr (.inr (.inl e)))
      · exact .inr (.inr (.inr (.inr e)))
    · rintro j vals ⟨u1, u2, h1, h2, rfl⟩
      obtain ⟨y1, e1, r1⟩ := p1 j u1 h1
      obtain ⟨y2, e2, r2⟩ := p2 j u2 h2
      exact ⟨[y1, y2], by unfold row2; rw [e1, e2], .cons r1 (.cons r2 .nil), by show 2 ≤ 2 ^ 24; decide⟩
def iZ2 (K : PySem.W.Frag) (ta : TA) : TI := fun σ H R => ta σ H fun vs H1 => ∃ (v1 v2 : V) (k1 k2 : Kd) (xs ys : List V), vs = [v1, v2] ∧ Src K H1 k1 v1 xs ∧ Src K H1 k2 v2 ys ∧ R (It2 K k1 v1 xs k2 v2 ys) H1
theorem fresh_fp {X : Cx} {pins : List (Addr × Obj)} {σ : L2.St} {H : Hp} {s : Shared} (I : Inv X pins σ H s) {b : Addr} (h : s.heap.objs.size ≤ b) : FpOk X pins H b := I.fpOk h (I.hok.fresh h)
theorem pi_z2 {X : Cx} {e e2 : Expr} {ta : TA} {p pos tpos : Pos} {elts : List Expr} {kk : Nat} (hg : Gl X "zip") (hm : X.mg "zip" = none) (ha : PA X [e, e2] ta)
    (hs : starEach [e, e2] X.env = (false, eval e X.env) :: starEach [e2] X.env := by rfl) (hpl : (backTo pos (starEach [e2] X.env)).any (·.1) = false := by rfl) :
    PI X (.Tuple elts kk tpos) (.Call (.Name "zip" p) [e, e2] [] pos) (iZ2 X.K ta) := by
  refine ⟨fun pins s σ H R I h => ?_⟩
  refine Call_ (ld_blt I hg hm PyProof.Rows.boot_zip (PyProof.Rows.callWith_type1 (thn (ha.run pos pins s σ H _ I h) fun us s1 ⟨vs, H1, I1, r1, q1⟩ => ?_) hs hpl))
  obtain ⟨v1, v2, k1, k2, xs, ys, ex, hx, hy, q⟩ := q1
  subst ex
  cases r1 with
  | cons r rr =>
    cases rr with
    | cons r' rr =>
      cases rr
      obtain ⟨o1, B1, b1, c1, d1, l1⟩ := src_begins I1 hx r
      obtain ⟨o2, B2, b2, c2, d2, l2⟩ := src_begins I1 hy r'
      refine zip_begins2 b1 b2 c1 c2 fun h' hz hTI hTO g1 g2 hsz hk => wpAny_pyIter_zip hz ?_
      have I2 : Inv X pins σ H1 { s1 with heap := h' } := I1.kept (t' := s1.toks) hk
      have nd : [s1.heap.objs.size + 4, s1.heap.objs.size + 2, s1.heap.objs.size + 3, s1.heap.objs.size, s1.heap.objs.size + 1].Nodup := by simp
      refine ⟨s1.heap.objs.size + 4, [s1.heap.objs.size + 4, s1.heap.objs.size + 2, s1.heap.objs.size + 3, s1.heap.objs.size, s1.heap.objs.size + 1], _, _, H1, rfl, I2, turn_z2 nd (fun a e => out5 (l1 a e)) (fun a e => out5 (l2 a e)), ⟨hz, hTI, ⟨_, _, hTO⟩, d1 _ _ g1, d2 _ _ g2⟩, fun c hcm => fresh_fp I1 (le5 hcm), q⟩

/-! ### zip of three -/
def row3 (xs ys zs : List V) (i : Nat) : Option (List V) := match xs[i]?, ys[i]?, zs[i]? with
  | some x, some y, some z => some [x, y, z]
  | _, _, _ => none
theorem row3_of {xs ys zs : List V} {i : Nat} {r : List V} (h : row3 xs ys zs i = some r) : ∃ x y z, xs[i]? = some x ∧ ys[i]? = some y ∧ zs[i]? = some z ∧ r = [x, y, z] := by
  unfold row3 at h
  split at h
  · rename_i x y z h1 h2 h3
    cases h
    exact ⟨x, y, z, h1, h2, h3, rfl⟩
  · cases h
def It3 (K : PySem.W.Frag) (k1 : Kd) (v1 : V) (xs : List V) (k2 : Kd) (v2 : V) (ys : List V) (k3 : Kd) (v3 : V) (zs : List V) : It :=
  ItN (min (min xs.length ys.length) zs.length) (fun H => Src K H k1 v1 xs ∧ Src K H k2 v2 ys ∧ Src K H k3 v3 zs) (row3 xs ys zs)
theorem turn_z3 {P : Program} {w : World} {K : PySem.W.Frag} {elts : List Expr} {kk : Nat} {tpos : Pos} {k1 k2 k3 : Kd} {v1 v2 v3 : V} {xs ys zs : List V} {z TI TO i1 i2 i3 : Addr} (nd : [z, TI, TO, i1, i2, i3].Nodup) (a1 : ∀ a, v1 = .ref a → a ∉ [z, TI, TO, i1, i2, i3])
    (a2 : ∀ a, v2 = .ref a → a ∉ [z, TI, TO, i1, i2, i3]) (a3 : ∀ a, v3 = .ref a → a ∉ [z, TI, TO, i1, i2, i3]) :
    Turn P w K (.Tuple elts kk tpos) (It3 K k1 v1 xs k2 v2 ys k3 v3 zs) [z, TI, TO, i1, i2, i3] z (fun i h => IsZip h z TI TO .none ∧ IsTupOf3 h TI (.ref i1) (.ref i2) (.ref i3) ∧ (∃ x y u, IsTupOf3 h TO x y u) ∧ StI h k1 v1 i1 i ∧ StI h k2 v2 i2 i ∧ StI h k3 v3 i3 i) := by
  refine turn_N (by simp) (fun i h st c hc => ?_) (fun i h h' st k => ?_) (fun A i s Q E st q => wpAny_pyIter_zip st.1 q) (fun X hP hw hK hc i pins s σ H I hG st => ?_)
  · obtain ⟨hz, hTI, ⟨x, y, u, hTO⟩, s1, s2, s3⟩ := st
    have e' : c = z ∨ c = TI ∨ c = TO ∨ c = i1 ∨ c = i2 ∨ c = i3 := by simpa using hc
    rcases e' with q | q | q | q | q | q
    · rw [q]; exact ⟨_, hz, fun v q => nomatch q⟩
    · rw [q]; exact ⟨_, hTI, fun v q => nomatch q⟩
    · rw [q]; exact ⟨_, hTO, fun v q => nomatch q⟩
    · rw [q]; exact s1.obj
    · rw [q]; exact s2.obj
    · rw [q]; exact s3.obj
  · obtain ⟨hz, hTI, ⟨x, y, u, hTO⟩, s1, s2, s3⟩ := st
    exact ⟨k z (by simp) _ hz, k TI (by simp) _ hTI, ⟨x, y, u, k TO (by simp) _ hTO⟩, s1.keep fun o q => k i1 (by simp) o q, s2.keep fun o q => k i2 (by simp) o q, s3.keep fun o q => k i3 (by simp) o q⟩
  · subst hP hw hK
    obtain ⟨hz, hTI, ⟨x, y, u, hTO⟩, s1, s2, s3⟩ := st
    simp only [List.nodup_cons, List.mem_cons, List.not_mem_nil, or_false, not_or, not_false_eq_true, List.nodup_nil, and_true] at nd
    simp only [List.mem_cons, List.not_mem_nil, or_false, not_or] at a1 a2 a3
    obtain ⟨⟨n1, n2, n3, n4, n5⟩, ⟨n6, n7, n8, n9⟩, ⟨n10, n11, n12⟩, ⟨n13, n14⟩, n15⟩ := nd
    obtain ⟨f1, P1, S1, D1, t1, m1, g1, p1, q1⟩ := src_draws I hc hG.1 s1 (fun a e => (a1 a e).2.2.2.1)
    obtain ⟨f2, P2, S2, D2, t2, m2, g2, p2, q2⟩ := src_draws I hc hG.2.1 s2 (fun a e => (a2 a e).2.2.2.2.1)
    obtain ⟨f3, P3, S3, D3, t3, m3, g3, p3, q3⟩ := src_draws I hc hG.2.2 s3 (fun a e => (a3 a e).2.2.2.2.2)
    have out : ∀ (j b : Addr) (f : List Addr) (v : V), (∀ b ∈ f, b = j ∨ v = .ref b) → (∀ a, v = .ref a → ¬ a = z ∧ ¬ a = TI ∧ ¬ a = TO ∧ ¬ a = i1 ∧ ¬ a = i2 ∧ ¬ a = i3) → b ≠ j → (b = z ∨ b = TO ∨ b = i1 ∨ b = i2 ∨ b = i3) → b ∉ f := fun j b f v g a ne hb hm => by
      rcases g b hm with e | e
      · exact ne e
      · obtain ⟨e1, e2, e3, e4, e5, e6⟩ := a b e
        rcases hb with h | h | h | h | h
        · exact e1 h
        · exact e3 h
        · exact e4 h
        · exact e5 h
        · exact e6 h
    have S : ZipSep3 z TI TO i1 i2 i3 f1 f2 f3 := ⟨Ne.symm n1, Ne.symm n2, n6, n7, m1, out i1 z f1 v1 g1 a1 n3 (by simp), out i1 TO f1 v1 g1 a1 n10 (by simp), n8, m2, out i2 z f2 v2 g2 a2 n4 (by simp), out i2 TO f2 v2 g2 a2 n11 (by simp), n9, m3, out i3 z f3 v3 g3 a3 n5 (by simp), out i3 TO f3 v3 g3 a3 n12 (by simp),
      out i2 i1 f2 v2 g2 a2 n13 (by simp), out i3 i1 f3 v3 g3 a3 n14 (by simp), out i1 i2 f1 v1 g1 a1 (Ne.symm n13) (by simp), out i3 i2 f3 v3 g3 a3 n15 (by simp), out i1 i3 f1 v1 g1 a1 (Ne.symm n14) (by simp), out i2 i3 f2 v2 g2 a2 (Ne.symm n15) (by simp)⟩
    refine ⟨_, _, _, _, _, WalksT.zipD3 S D1 D2 D3, ⟨hz, hTI, ⟨x, y, u, hTO⟩, t1, t2, t3⟩, fun b hb => ?_, fun j h st => ⟨st.1, st.2.1, st.2.2.1, q1 _ _ st.2.2.2.1, q2 _ _ st.2.2.2.2.1, q3 _ _ st.2.2.2.2.2⟩, ?_⟩
    · simp only [List.mem_cons, List.not_mem_nil, or_false] at hb ⊢
      rcases hb with e | e | e | e | e
      · exact .inl e
      · exact .inr (.inr (.inl e))
      · exact .inr (.inr (.inr (.inl e)))
      · exact .inr (.inr (.inr (.inr (.inl e))))
      · exact .inr (.inr (.inr (.inr (.inr e))))
    · rintro j vals ⟨u1, u2, u3, h1, h2, h3, rfl⟩
      obtain ⟨y1, e1, r1⟩ := p1 j u1 h1
      obtain ⟨y2, e2, r2⟩ := p2 j u2 h2
      obtain ⟨y3, e3, r3⟩ := p3 j u3 h3
      exact ⟨[y1, y2, y3], by unfold row3; rw [e1, e2, e3], .cons r1 (.cons r2 (.cons r3 .nil)), by show 3 ≤ 2 ^ 24; decide⟩
def iZ3 (K : PySem.W.Frag) (ta : TA) : TI := fun σ H R => ta σ H fun vs H1 => ∃ (v1 v2 v3 : V) (k1 k2 k3 : Kd) (xs ys zs : List V), vs = [v1, v2, v3] ∧ Src K H1 k1 v1 xs ∧ Src K H1 k2 v2 ys ∧ Src K H1 k3 v3 zs ∧ R (It3 K k1 v1 xs k2 v2 ys k3 v3 zs) H1
theorem pi_z3 {X : Cx} {e e2 e3 : Expr} {ta : TA} {p pos tpos : Pos} {elts : List Expr} {kk : Nat} (hg : Gl X "zip") (hm : X.mg "zip" = none) (ha : PA X [e, e2, e3] ta)
    (hs : starEach [e, e2, e3] X.env = (false, eval e X.env) :: starEach [e2, e3] X.env := by rfl) (hpl : (backTo pos (starEach [e2, e3] X.env)).any (·.1) = false := by rfl) :
    PI X (.Tuple elts kk tpos) (.Call (.Name "zip" p) [e, e2, e3] [] pos) (iZ3 X.K ta) := by
  refine ⟨fun pins s σ H R I h => ?_⟩
  refine Call_ (ld_blt I hg hm PyProof.Rows.boot_zip (PyProof.Rows.callWith_type1 (thn (ha.run pos pins s σ H _ I h) fun us s1 ⟨vs, H1, I1, r1, q1⟩ => ?_) hs hpl))
  obtain ⟨v1, v2, v3, k1, k2, k3, xs, ys, zs, ex, hx, hy, hz0, q⟩ := q1
  subst ex
  cases r1 with
  | cons r rr =>
    cases rr with
    | cons r' rr =>
      cases rr with
      | cons r'' rr =>
        cases rr
        obtain ⟨o1, B1, b1, c1, d1, l1⟩ := src_begins I1 hx r
        obtain ⟨o2, B2, b2, c2, d2, l2⟩ := src_begins I1 hy r'
        obtain ⟨o3, B3, b3, c3, d3, l3⟩ := src_begins I1 hz0 r''
        refine zip_begins3 b1 b2 b3 c1 c2 c3 fun h' hz hTI hTO g1 g2 g3 hsz hk => wpAny_pyIter_zip hz ?_
        have I2 : Inv X pins σ H1 { s1 with heap := h' } := I1.kept (t' := s1.toks) hk
        have nd : [s1.heap.objs.size + 5, s1.heap.objs.size + 3, s1.heap.objs.size + 4, s1.heap.objs.size, s1.heap.objs.size + 1, s1.heap.objs.size + 2].Nodup := by simp
        refine ⟨s1.heap.objs.size + 5, [s1.heap.objs.size + 5, s1.heap.objs.size + 3, s1.heap.objs.size + 4, s1.heap.objs.size, s1.heap.objs.size + 1, s1.heap.objs.size + 2], _, _, H1, rfl, I2, turn_z3 nd (fun a e => out6 (l1 a e)) (fun a e => out6 (l2 a e)) (fun a e => out6 (l3 a e)),
          ⟨hz, hTI, ⟨_, _, _, hTO⟩, d1 _ _ g1, d2 _ _ g2, d3 _ _ g3⟩, fun c hcm => fresh_fp I1 (le6 hcm), q⟩

/-! ### enumerate -/
def rowE (xs : List V) (i : Nat) : Option (List V) := xs[i]?.map fun x => [V.int (i : Nat), x]
theorem rowE_of {xs : List V} {i : Nat} {r : List V} (h : rowE xs i = some r) : ∃ x, xs[i]? = some x ∧ r = [V.int (i : Nat), x] := by
  unfold rowE at h
  cases e : xs[i]? with
  | none => rw [e] at h; cases h
  | some x => rw [e] at h; cases h; exact ⟨x, rfl, rfl⟩
def ItE (K : PySem.W.Frag) (k1 : Kd) (v1 : V) (xs : List V) : It := ItN xs.length (fun H => Src K H k1 v1 xs) (rowE xs)
theorem turn_e {P : Program} {w : World} {K : PySem.W.Frag} {elts : List Expr} {kk : Nat} {tpos : Pos} {k1 : Kd} {v1 : V} {xs : List V} {e it : Addr} (nd : e ≠ it) (a1 : ∀ a, v1 = .ref a → a ∉ [e, it]) :
    Turn P w K (.Tuple elts kk tpos) (ItE K k1 v1 xs) [e, it] e (fun i h => (∃ old, IsEnum h e it (0 + ((i : Nat) : Int)) old) ∧ StI h k1 v1 it i) := by
  refine turn_N (by simp) (fun i h st c hc => ?_) (fun i h h' st k => ?_) (fun A i s Q E st q => let ⟨⟨_, he⟩, _⟩ := st; wpAny_pyIter_enum he q) (fun X hP hw hK hc i pins s σ H I hG st => ?_)
  · obtain ⟨⟨old, he⟩, s1⟩ := st
    have e' : c = e ∨ c = it := by simpa using hc
    rcases e' with q | q
    · rw [q]; exact ⟨_, he, fun v q => nomatch q⟩
    · rw [q]; exact s1.obj
  · obtain ⟨⟨old, he⟩, s1⟩ := st
    exact ⟨⟨old, k e (by simp) _ he⟩, s1.keep fun o q => k it (by simp) o q⟩
  · subst hP hw hK
    obtain ⟨⟨old, he⟩, s1⟩ := st
    simp only [List.mem_cons, List.not_mem_nil, or_false, not_or] at a1
    obtain ⟨f1, P1, S1, D1, t1, m1, g1, p1, q1⟩ := src_draws I hc hG s1 (fun a e => (a1 a e).2)
    have hef : e ∉ f1 := fun hm => by
      rcases g1 e hm with z | z
      · exact nd z
      · exact (a1 _ z).1 rfl
    refine ⟨_, _, _, _, _, WalksT.enumFrom 0 D1 e nd hef m1, ⟨⟨old, he⟩, t1⟩, fun b hb => hb, fun j h st => ⟨st.1, q1 _ _ st.2⟩, ?_⟩
    rintro j vals ⟨t, u1, h1, rfl⟩
    obtain ⟨y1, e1, r1⟩ := p1 j u1 h1
    refine ⟨[.int (j : Nat), y1], by unfold rowE; rw [e1]; rfl, .cons ⟨t, ?_⟩ (.cons r1 .nil), by show 2 ≤ 2 ^ 24; decide⟩
    show Value.int (0 + (j : Int)) t = Value.int (j : Int) t
    rw [Int.zero_add]
set_option maxHeartbeats 4000000 in
theorem meets_enumerate_newB1 {v : Value} {o : Obj} {H : Heap → Prop} (B : Begins v o H) :
    Meets (Builtin.«enumerate.__new__» ⟨[.type "enumerate", v], []⟩) (fun _ R s => H s.heap ∧
      R (.ok (.ret (.ref (s.heap.push o).objs.size))) { s with heap := (s.heap.push o).push { cls := .type "enumerate", data := .fields #[.none, .bool false, .ref s.heap.objs.size, rawInt 0, .none, .none] } }) :=
  .of_wp fun prog w A R s h => by
    obtain ⟨hp, g, d, tk, os⟩ := s; obtain ⟨h1, h⟩ := h
    have hsub := sub_enumerate
    have q1 : ∀ {A' : Around} {E : Value → Shared → Prop} {Q : Value → Shared → Prop}, Q (.ref hp.objs.size) ⟨hp.push o, g, d, tk, os⟩ → wpAny (model prog w) A' (pyIter v) Q E ⟨hp, g, d, tk, os⟩ :=
      fun q => B.iter prog w _ _ ⟨hp, g, d, tk, os⟩ _ h1 q
    wp_walk using q1
    refine wpAny_stack_any fun st => wpAny_pure ?_
    split
    · rename_i c _ _ _ _ _
      cases (c == Value.type "enumerate")
      · wp_walk using q1
        exact ⟨_, rfl, h⟩
      · wp_walk using q1
        exact ⟨_, rfl, h⟩
    · wp_walk using q1
      exact ⟨_, rfl, h⟩
theorem enum_begins1 {prog : Program} {w : World} {A : Around} {E : Value → Shared → Prop} {s : Shared} {v : Value} {o : Obj} {H : Heap → Prop} {Q : Value → Shared → Prop} (B : Begins v o H) (h1 : H s.heap)
    (h : ∀ h', IsEnum h' (s.heap.objs.size + 1) s.heap.objs.size 0 .none → h'.get? s.heap.objs.size = some o → h'.objs.size = s.heap.objs.size + 2 →
      (∀ b o, s.heap.get? b = some o → h'.get? b = some o) → Q (.ref (s.heap.objs.size + 1)) { s with heap := h' }) :
    wpAny (model prog w) A (call (.type "enumerate") [v]) Q E s := by
  refine callType_new F.called_enumerate (by decide) (F.typeCall_enumerate_1 _) (F.newCall_enumerate_1 _) (fun obj => F.args_object_init_2 obj _) F.entry_enumerate_new
    (meets_enumerate_newB1 B) ⟨h1, ?_⟩
  have hz : (s.heap.push o).objs.size = s.heap.objs.size + 1 := Heap.size_push ..
  show _ ∧ _
  rw [hz]
  have he : IsEnum ((s.heap.push o).push { cls := .type "enumerate", data := .fields #[.none, .bool false, .ref s.heap.objs.size, rawInt 0, .none, .none] }) (s.heap.objs.size + 1) s.heap.objs.size 0 .none := by
    have := Heap.get?_push_size (s.heap.push o) (o := { cls := .type "enumerate", data := .fields #[.none, .bool false, .ref s.heap.objs.size, rawInt 0, .none, .none] }) rfl
    rw [hz] at this; exact this
  refine ⟨⟨_, he, rfl⟩, h _ he (Heap.get?_push_of_some _ (Heap.get?_push_size _ B.free)) (by rw [Heap.size_push, hz]) fun b o x => Heap.get?_push_of_some _ (Heap.get?_push_of_some _ x)⟩
def iE (K : PySem.W.Frag) (ta : TA) : TI := fun σ H R => ta σ H fun vs H1 => ∃ (v1 : V) (k1 : Kd) (xs : List V), vs = [v1] ∧ Src K H1 k1 v1 xs ∧ R (ItE K k1 v1 xs) H1
theorem pi_e {X : Cx} {e : Expr} {ta : TA} {p pos tpos : Pos} {elts : List Expr} {kk : Nat} (hg : Gl X "enumerate") (hm : X.mg "enumerate" = none) (ha : PA X [e] ta) (hs : starEach [e] X.env = [(false, eval e X.env)] := by rfl) :
    PI X (.Tuple elts kk tpos) (.Call (.Name "enumerate" p) [e] [] pos) (iE X.K ta) := by
  refine ⟨fun pins s σ H R I h => ?_⟩
  refine Call_ (ld_blt I hg hm boot_enumerate (PyProof.Rows.callWith_type1 (thn (ha.run pos pins s σ H _ I h) fun us s1 ⟨vs, H1, I1, r1, q1⟩ => ?_) hs rfl))
  obtain ⟨v1, k1, xs, ex, hx, q⟩ := q1
  subst ex
  cases r1 with
  | cons r rr =>
    cases rr
    obtain ⟨o1, B1, b1, c1, d1, l1⟩ := src_begins I1 hx r
    refine enum_begins1 b1 c1 fun h' he g1 hsz hk => wpAny_pyIter_enum he ?_
    have I2 : Inv X pins σ H1 { s1 with heap := h' } := I1.kept (t' := s1.toks) hk
    refine ⟨s1.heap.objs.size + 1, [s1.heap.objs.size + 1, s1.heap.objs.size], _, _, H1, rfl, I2, turn_e (Nat.succ_ne_self _) (fun a e => out2 (l1 a e)), ⟨⟨.none, by rw [show (0 : Int) + ((0 : Nat) : Int) = 0 from rfl]; exact he⟩, d1 _ _ g1⟩, fun c hcm => fresh_fp I1 (le2 hcm), q⟩
end GZ
/-! Words and signs as texts; a text times a number, a tuple once. No row. -/
namespace KW
open PySem PySem.Spec PyProof.Rows L2 GL KC GZ
def sg (j : Nat) : Str := ⟨#[97 + j]⟩
def wS (w : List Nat) : Str := ⟨(w.map (97 + ·)).toArray⟩
theorem wS_nil : wS [] = ("" : Str) := by decide +kernel
theorem wS_len (w : List Nat) : (wS w).length = w.length := by
  show ((w.map (97 + ·)).toArray).size = _
  simp
theorem wS_size (w : List Nat) : (wS w).cps.size = w.length := wS_len w
theorem wS_list (w : List Nat) : (wS w).cps.toList = w.map (97 + ·) := rfl
theorem wS_at {w : List Nat} {i c : Nat} (h : (wS w).cps[i]? = some c) : ∃ j, w[i]? = some j ∧ c = 97 + j := by
  have h' : (w.map (97 + ·))[i]? = some c := by simpa [wS] using h
  rw [List.getElem?_map] at h'
  cases e : w[i]? with
  | none => rw [e] at h'; cases h'
  | some j => rw [e] at h'; exact ⟨j, rfl, (Option.some.inj h').symm⟩
theorem wS_app (w u : List Nat) : wS w ++ wS u = wS (w ++ u) := by
  have e : ∀ a b : Str, a ++ b = ⟨a.cps ++ b.cps⟩ := fun _ _ => rfl
  rw [e]
  simp [wS]
theorem sg_wS (j : Nat) : sg j = wS [j] := rfl
theorem occ_at : ∀ j, j < 4 → Builtin.Str.occurrences ("abcd" : Str) (sg j) 0 ("abcd" : Str).length 1 = [j] := by
  intro j hj
  rcases j with _ | _ | _ | _ | j
  · decide +kernel
  · decide +kernel
  · decide +kernel
  · decide +kernel
  · omega
theorem cut_abcd : ∀ l : Nat, 1 ≤ l → l ≤ 4 → cutS ("abcd" : Str) none (some (l : Int)) = wS (List.range l) := by
  intro l h1 h4
  rcases l with _ | _ | _ | _ | _ | l
  · omega
  · decide +kernel
  · decide +kernel
  · decide +kernel
  · decide +kernel
  · omega
/-- texts of one sign each, joined -/
theorem join_c : ∀ cs : List Nat, Txt.join ("" : Str) (cs.map fun c => (⟨#[c]⟩ : Str)) = ⟨cs.toArray⟩ := by
  intro w
  rw [TL.join_eq]
  have e0 : ∀ a : Str, a ++ ("" : Str) = a := by
    intro a
    show (⟨a.cps ++ #[]⟩ : Str) = a
    simp
  induction w with
  | nil => rfl
  | cons j w ih =>
    cases w with
    | nil => rfl
    | cons k w =>
      show (⟨#[j]⟩ : Str) ++ ("" : Str) ++ Str.join ("" : Str) ((k :: w).map fun c => (⟨#[c]⟩ : Str)) = _
      rw [ih, e0]
      show (⟨#[j] ++ (k :: w).toArray⟩ : Str) = _
      simp
theorem len_c : ∀ us : List Nat, ((us.map fun c => (⟨#[c]⟩ : Str)).map (·.length)).sum = us.length := by
  intro us
  induction us with
  | nil => rfl
  | cons y ys ih =>
    rw [List.map_cons, List.map_cons, List.sum_cons, ih, List.length_cons]
    show 1 + ys.length = ys.length + 1
    omega
/-- signs: true is minus -/
def sc (b : Bool) : Nat := if b then 45 else 43
def sS (bs : List Bool) : Str := ⟨(bs.map sc).toArray⟩
theorem sS_len (bs : List Bool) : (sS bs).length = bs.length := by
  show ((bs.map sc).toArray).size = _
  simp
theorem sgs_sS (bs : List Bool) : sgs (sS bs) = bs.map fun b => V.str ⟨#[sc b]⟩ := by
  unfold sgs sS
  simp
theorem sgs_abcd : sgs ("abcd" : Str) = [V.str (sg 0), V.str (sg 1), V.str (sg 2), V.str (sg 3)] := by rfl
theorem sgs_abcd_at {i : Nat} {x : V} (h : (sgs ("abcd" : Str))[i]? = some x) : x = .str (sg i) ∧ i < 4 := by
  rw [sgs_abcd] at h
  rcases i with _ | _ | _ | _ | i
  · cases h; exact ⟨rfl, by decide⟩
  · cases h; exact ⟨rfl, by decide⟩
  · cases h; exact ⟨rfl, by decide⟩
  · cases h; exact ⟨rfl, by decide⟩
  · cases h
theorem sc_minus (b : Bool) : decide (V.str ⟨#[sc b]⟩ = V.str ("-" : Str)) = b := by cases b <;> decide +kernel
theorem count_wS (w : List Nat) (j : Nat) : Txt.count (wS w) (sg j) = ((w.count j : Nat) : Int) := by
  unfold sg
  rw [count_cnt, wS_list]
  induction w with
  | nil => rfl
  | cons a w ih =>
    rw [List.map_cons, cnt_cons, ih, List.count_cons]
    by_cases h : a = j
    · subst h
      simp
      omega
    · have h2 : ¬ 97 + a = 97 + j := by omega
      rw [if_neg h2]
      simp [h]
/-! ### one of the signs of a text -/
def spOneT : Sp := fun vs H Q _ => ∃ (d c : Addr) (z : Str) (m : Nat), vs = [.ref d, .str z] ∧ Deck H d c m ∧ m ≤ 1000000000 ∧ 0 < z.length ∧ z.length ≤ 1000 ∧
  ∀ (k : Nat) (G : Hp), k ∈ z.cps.toList → Deck G d c (m + 1) → Same (Hd d c H) (Hd d c G) → Q (.str ⟨#[k]⟩) G
def spWord : Sp := fun vs H Q _ => ∃ (d c : Addr) (l most m : Nat), vs = [.ref d, .int l, .int most] ∧ Deck H d c m ∧ m ≤ 900000000 ∧ 1 ≤ l ∧ l ≤ 4 ∧ most ≤ 1000 ∧
  ∀ (w : List Nat) (G : Hp), (∀ j ∈ w, j < l) → w.length ≤ most → Deck G d c (m + 1002) → Same (Hd d c H) (Hd d c G) → Q (.str (wS w)) G
def spSigns : Sp := fun vs H Q _ => ∃ (d c : Addr) (l m : Nat), vs = [.ref d, .int l] ∧ Deck H d c m ∧ m ≤ 900000000 ∧ l ≤ 4 ∧
  ∀ (bs : List Bool) (G : Hp), bs.length = l → Deck G d c (m + 4) → Same (Hd d c H) (Hd d c G) → Q (.str (sS bs)) G
theorem bs_of : ∀ cs : List Nat, (∀ c ∈ cs, c = 43 ∨ c = 45) → ∃ bs : List Bool, cs = bs.map sc
  | [], _ => ⟨[], rfl⟩
  | c :: cs, h => by
    obtain ⟨bs, e⟩ := bs_of cs fun x hx => h x (List.mem_cons_of_mem _ hx)
    rcases h c List.mem_cons_self with rfl | rfl
    · exact ⟨false :: bs, by rw [e]; rfl⟩
    · exact ⟨true :: bs, by rw [e]; rfl⟩
theorem ws_of : ∀ (l : Nat) (cs : List Nat), (∀ c ∈ cs, c ∈ (wS (List.range l)).cps.toList) → ∃ w : List Nat, cs = w.map (97 + ·) ∧ ∀ j ∈ w, j < l
  | _, [], _ => ⟨[], rfl, fun _ h => nomatch h⟩
  | l, c :: cs, h => by
    obtain ⟨w, e, hw⟩ := ws_of l cs fun x hx => h x (List.mem_cons_of_mem _ hx)
    have hc := h c List.mem_cons_self
    rw [wS_list] at hc
    obtain ⟨j, hj, ej⟩ := List.mem_map.mp hc
    refine ⟨j :: w, by rw [e, ← ej]; rfl, fun k hk => ?_⟩
    rcases List.mem_cons.mp hk with rfl | hk
    · exact List.mem_range.mp hj
    · exact hw k hk
/-! ### the sign and the weight of a word -/
def sgn (bs : List Bool) : List Nat → Int
  | [] => 1
  | j :: w => (if bs.getD j false then -1 else 1) * sgn bs w
theorem sgn_app (bs : List Bool) : ∀ u v : List Nat, sgn bs (u ++ v) = sgn bs u * sgn bs v
  | [], v => by show sgn bs v = 1 * sgn bs v; omega
  | j :: u, v => by
    show _ * sgn bs (u ++ v) = _ * sgn bs u * sgn bs v
    rw [sgn_app bs u v, Int.mul_assoc]
theorem sgn_one (bs : List Bool) (j : Nat) : sgn bs [j] = if bs.getD j false then -1 else 1 := Int.mul_one _
theorem sgn_odd (bs : List Bool) : ∀ w : List Nat, sgn bs w = if (w.countP fun j => bs.getD j false) % 2 = 1 then -1 else 1
  | [] => rfl
  | j :: w => by
    show _ * sgn bs w = _
    rw [sgn_odd bs w, List.countP_cons]
    cases bs.getD j false with
    | false => simp
    | true =>
      simp only [if_true]
      split <;> split <;> omega
theorem sgn_pm (bs : List Bool) (w : List Nat) : sgn bs w = 1 ∨ sgn bs w = -1 := by
  rw [sgn_odd]
  split
  · exact .inr rfl
  · exact .inl rfl
theorem sgn_plus (l : Nat) : ∀ w : List Nat, sgn (List.replicate l false) w = 1
  | [] => rfl
  | j :: w => by
    show _ * sgn _ w = _
    rw [sgn_plus l w]
    have e : (List.replicate l false).getD j false = false := by
      rw [List.getD_eq_getElem?_getD]
      cases h : (List.replicate l false)[j]? with
      | none => rfl
      | some b => exact List.eq_of_mem_replicate (List.mem_of_getElem? h)
    rw [e]
    rfl
theorem sum_counts (w : List Nat) : ∀ L : List Nat, L.Nodup → (L.map fun j => ((w.count j : Nat) : Int)).sum = ((w.countP fun j => decide (j ∈ L) : Nat) : Int)
  | [], _ => by simp
  | a :: L, nd => by
    have nd' := List.nodup_cons.mp nd
    rw [List.map_cons, List.sum_cons, sum_counts w L nd'.2]
    have : ∀ w : List Nat, (w.countP fun j => decide (j ∈ a :: L)) = w.count a + w.countP fun j => decide (j ∈ L) := by
      intro w
      induction w with
      | nil => rfl
      | cons x w ih =>
        rw [List.countP_cons, List.count_cons, List.countP_cons, ih]
        by_cases h : x = a
        · subst h
          simp [nd'.1]
          omega
        · simp [h]
          omega
    rw [this w]
    omega
def minus (bs : List Bool) (l : Nat) : List Nat := (List.range l).filter fun j => bs.getD j false
theorem minus_sum (bs : List Bool) (l : Nat) (w : List Nat) (h : ∀ j ∈ w, j < l) : ((minus bs l).map fun j => ((w.count j : Nat) : Int)).sum = ((w.countP fun j => bs.getD j false : Nat) : Int) := by
  rw [sum_counts w (minus bs l) (List.nodup_range.filter _)]
  congr 1
  apply List.countP_congr
  intro j hj
  simp [minus, h j hj]
def wsum (ws : List Int) (w : List Nat) : Int := ((List.range ws.length).map fun j => ((w.count j : Nat) : Int) * ws.getD j 0).sum
theorem sum_add {α : Type} (f g : α → Int) : ∀ L : List α, (L.map fun j => f j + g j).sum = (L.map f).sum + (L.map g).sum
  | [] => rfl
  | a :: L => by
    rw [List.map_cons, List.sum_cons, sum_add f g L, List.map_cons, List.sum_cons, List.map_cons, List.sum_cons]
    omega
theorem wsum_app (ws : List Int) (u v : List Nat) : wsum ws (u ++ v) = wsum ws u + wsum ws v := by
  unfold wsum
  rw [← sum_add]
  congr 1
  refine List.map_congr_left fun j _ => ?_
  rw [List.count_append, ← Int.add_mul]
  congr 1
theorem sum_bound (f : Nat → Int) (b : Nat) (h : ∀ j, (f j).natAbs ≤ b) : ∀ L : List Nat, ((L.map f).sum).natAbs ≤ L.length * b
  | [] => by simp
  | a :: L => by
    rw [List.map_cons, List.sum_cons, List.length_cons, Nat.add_mul]
    have := sum_bound f b h L
    have := h a
    omega
theorem wsum_le (ws : List Int) (w : List Nat) (hl : ws.length ≤ 4) (hw : w.length ≤ 1000) (h : ∀ x ∈ ws, x.natAbs ≤ 99) : (wsum ws w).natAbs ≤ 400000 := by
  have := sum_bound (fun j => ((w.count j : Nat) : Int) * ws.getD j 0) 99000 (fun j => ?_) (List.range ws.length)
  · rw [List.length_range] at this
    unfold wsum
    omega
  · have c := List.count_le_length (a := j) (l := w)
    have g : (ws.getD j 0).natAbs ≤ 99 := by
      rw [List.getD_eq_getElem?_getD]
      cases e : ws[j]? with
      | none => exact Nat.zero_le _
      | some x => exact h x (List.mem_of_getElem? e)
    show (((w.count j : Nat) : Int) * ws.getD j 0).natAbs ≤ 99000
    rw [Int.natAbs_mul, Int.natAbs_natCast]
    exact Nat.le_trans (Nat.mul_le_mul (Nat.le_trans c hw) g) (by decide)
theorem wsum_nought (l : Nat) (w : List Nat) : wsum (List.replicate l 0) w = 0 := by
  unfold wsum
  have : ∀ L : List Nat, (L.map fun j => ((w.count j : Nat) : Int) * (List.replicate l (0 : Int)).getD j 0).sum = 0 := by
    intro L
    induction L with
    | nil => rfl
    | cons a L ih =>
      rw [List.map_cons, List.sum_cons, ih]
      have e : (List.replicate l (0 : Int)).getD a 0 = 0 := by
        rw [List.getD_eq_getElem?_getD]
        cases h : (List.replicate l (0 : Int))[a]? with
        | none => rfl
        | some b => exact List.eq_of_mem_replicate (List.mem_of_getElem? h)
      rw [e, Int.mul_zero]
      rfl
  exact this _
/-! ### a text times a number, a tuple once -/
def rMulS : R2 := fun x y H Q => ∃ (c : Nat) (n : Nat), x = .str ⟨#[c]⟩ ∧ y = .int (n : Int) ∧ 1 ≤ n ∧ n ≤ 100000 ∧ Q (.str ⟨(List.replicate n c).toArray⟩) H
theorem rep_c (c : Nat) : ∀ (n : Nat) (acc : List Nat), (List.replicate n #[c]).foldl (· ++ ·) acc.toArray = (acc ++ List.replicate n c).toArray
  | 0, acc => by simp
  | n + 1, acc => by
    rw [List.replicate_succ, List.foldl_cons]
    have e : acc.toArray ++ #[c] = (acc ++ [c]).toArray := by simp
    rw [e, rep_c c n]
    rw [List.replicate_succ, List.append_assoc]
    rfl
theorem op_mulS {X : Cx} : OpR X (binaryOp .Mult) rMulS := by
  intro pins s σ H x y v u Q I rx ry h
  obtain ⟨c, n, rfl, rfl, h1, h2, q⟩ := h
  obtain ⟨t, rfl⟩ := rx
  obtain ⟨t', rfl⟩ := ry
  have e1 : ¬ ((n : Int) < 1) := by omega
  have l1 : (⟨#[c]⟩ : Str).length = 1 := rfl
  refine P.mul_str (x := ⟨#[c]⟩) (n := (n : Int)) (t := t) (u := t') ?_ (fun _ _ => ?_) (fun _ _ => ?_) ?_
  · rw [decide_eq_false (by omega), decide_eq_false (by omega)]; rfl
  · rw [l1]
    have : (1 : Int) ≤ (2 ^ 63 - 1) / (n : Int) := by
      rw [Int.le_ediv_iff_mul_le (by omega)]
      omega
    show ¬ (((1 : Nat) : Int) > _)
    omega
  · show decide _ = false
    rw [l1, Int.toNat_natCast, sizeLine_eq]
    exact decide_eq_false (by omega)
  · rw [if_neg e1]
    by_cases e2 : n = 1
    · subst e2
      rw [if_pos (by rfl)]
      exact ⟨.str ⟨#[c]⟩, H, I, ⟨_, rfl⟩, q⟩
    · have e3 : (((n : Int) == 1) || ((⟨#[c]⟩ : Str).length == 0)) = false := by
        rw [l1]
        have : ((n : Int) == 1) = false := beq_eq_false_iff_ne.mpr (by omega)
        rw [this]
        rfl
      rw [e3, if_neg Bool.false_ne_true, Int.toNat_natCast]
      have e4 := rep_c c n []
      rw [List.nil_append] at e4
      rw [e4]
      refine ⟨?_, .str ⟨(List.replicate n c).toArray⟩, H, I.tok _, ⟨_, rfl⟩, q⟩
      show ((List.replicate n c).toArray).size ≤ sizeLine
      rw [List.size_toArray, List.length_replicate, sizeLine_eq]
      omega
theorem tuple_mul1 (l : Addr) (items : Array Value) (n : Nat) (dd : Option Addr) (sl : Array (Option Value)) (u : Tok) :
    Meets (Builtin.«tuple.__mul__» ⟨[.ref l, .int 1 u], []⟩) (fun _ R s => s.heap.get? l = some { cls := .type "tuple", dict := dd, data := .seq items n, slots := sl } ∧ R (.ok (.ret (Value.ref l))) s) :=
  .of_wp fun prog w A R s h => by
    obtain ⟨hp, g, d, tk, os⟩ := s
    obtain ⟨hl, h⟩ := h
    have f1 := AutoSeq1.idx_int
    have c1 : (items.isEmpty || (1 : Int) == 1) = true := by rw [Bool.or_eq_true]; exact .inr rfl
    wp_walk using AutoSeq1.wpAny_loadPart' hl
    repeat (first
      | (refine wpAny_ite_false (decide_eq_false (by decide)) ?_; wp_walk using AutoSeq1.wpAny_loadPart' hl)
      | (refine wpAny_ite_true (decide_eq_true c1) ?_; wp_walk using AutoSeq1.wpAny_loadPart' hl))
    exact ⟨_, rfl, h⟩
def rRepT1 (K : PySem.W.Frag) : R2 := fun x y H Q => ∃ (l : Addr) (k : Nat) (xs : List V), x = .ref l ∧ y = .int (k : Int) ∧ SqT K H l xs ∧ xs ≠ [] ∧ 1 ≤ k ∧ k ≤ 1000 ∧ xs.length ≤ 1000 ∧ (k = 1 → Q (.ref l) H) ∧ ∀ p, H p = none → Q (.ref p) (upd H p (.tup (List.replicate k xs).flatten))
theorem op_repT1 {X : Cx} : OpR X (binaryOp .Mult) (rRepT1 X.K) := by
  intro pins s σ H x y v u Q I rx ry h
  obtain ⟨l, k, xs, rfl, rfl, hT, hne, h1, h2, hz, q1, q⟩ := h
  by_cases e : k = 1
  · subst e
    cases rx
    obtain ⟨t, rfl⟩ := ry
    obtain ⟨its, r, ⟨⟨cls, dd, data, sl⟩, ho, hc, n, hd⟩, hs⟩ := I.tuple hT
    simp only at hc hd
    subst hc hd
    exact wpAny_binaryOp_repeat_ref (T := "tuple") (U := "int") (by decide) ⟨_, ho, rfl⟩ (fun s' => typeIs_int s' ((1 : Nat) : Int) t) noFill_tuple_mul F.fills_int_mul F.slot_int_rmul repeat_tuple F.slot_int_index.lookup
      (call_meets F.slot_int_rmul (typeIs_int s ((1 : Nat) : Int) t) F.entry_int_rmul (F.args_int_rmul_2 _ _) (int_rmul_tuple ((1 : Nat) : Int) t l its.toArray n dd sl)
        ⟨ho, rfl, ⟨_, ho, rfl⟩, call_meets F.slot_tuple_mul ⟨_, ho, rfl⟩ F.entry_tuple_mul (F.args_tuple_mul_2 _ _) (tuple_mul1 l its.toArray n dd sl t) ⟨ho, .ref l, H, I, rfl, q1 rfl⟩⟩)
  · exact op_repT pins s σ H _ _ v u Q I rx ry ⟨l, k, xs, rfl, rfl, hT, hne, by omega, by omega, hz, fun p np => by rw [Int.toNat_natCast]; exact q p np⟩
end KW
/-! Rules: pairs of words; a rule as an object; what changes a word. No row. -/
namespace KR
open PySem PySem.Spec PyProof.Rows L2 GL KC GZ KW
abbrev Pr := List Nat × List Nat
def pD (p : Pr) : PyData := .tuple [.str (wS p.1), .str (wS p.2)]
def rD (rs : List Pr) : PyData := .tuple (rs.map pD)
structure Rul (l : Nat) (rs : List Pr) : Prop where
  len : rs.length ≤ 6
  ok : ∀ p ∈ rs, 1 ≤ p.1.length ∧ p.1.length ≤ 3 ∧ p.2.length = p.1.length ∧ p.1 ≠ p.2 ∧ (∀ j ∈ p.1, j < l) ∧ ∀ j ∈ p.2, j < l
structure RuleAt (H : Hp) (a : Addr) (rs : List Pr) : Prop where
  ex : ∃ ts : List Addr, H a = some (.tup (ts.map V.ref)) ∧ ts.length = rs.length ∧ ∀ (i : Nat) (p : Pr), rs[i]? = some p → ∃ t : Addr, ts[i]? = some t ∧ H t = some (.tup [.str (wS p.1), .str (wS p.2)])
theorem RuleAt.same {H H' : Hp} {a : Addr} {rs : List Pr} (R : RuleAt H a rs) (s : Same H H') : RuleAt H' a rs := by
  obtain ⟨ts, h1, h2, h3⟩ := R.ex
  exact ⟨ts, s _ _ h1, h2, fun i p e => let ⟨t, a, b⟩ := h3 i p e; ⟨t, a, s _ _ b⟩⟩
theorem pairs_dt {K : PySem.W.Frag} {H : Hp} : ∀ {ts : List Addr} {rs : List Pr}, ts.length = rs.length → (∀ (i : Nat) (p : Pr), rs[i]? = some p → ∃ t : Addr, ts[i]? = some t ∧ H t = some (.tup [.str (wS p.1), .str (wS p.2)])) → DtAll K H (ts.map V.ref) (rs.map pD)
  | [], [], _, _ => .nil
  | t :: ts, p :: rs, hl, h => by
    obtain ⟨t', h1, h2⟩ := h 0 p rfl
    cases h1
    refine .cons (.tup h2 (.cons (.str _) (.cons (.str _) .nil))) (pairs_dt (by simpa using hl) fun i q hq => ?_)
    obtain ⟨t2, a, b⟩ := h (i + 1) q (by simpa using hq)
    exact ⟨t2, by simpa using a, b⟩
theorem RuleAt.dt {K : PySem.W.Frag} {H : Hp} {a : Addr} {rs : List Pr} (R : RuleAt H a rs) : Dt K H (.ref a) (rD rs) := by
  obtain ⟨ts, h1, h2, h3⟩ := R.ex
  exact .tup h1 (pairs_dt h2 h3)
theorem word_shown (w : List Nat) (hw : ∀ j ∈ w, j < 4) : (PyData.str (wS w)).shown.length ≤ 10 * w.length + 2 := by
  rw [PyData.shown_str]
  have h := StrLaws.reprText_len (wS w) (fun c hc => by
    rw [wS_list] at hc
    obtain ⟨j, hj, e⟩ := List.mem_map.mp hc
    have := hw j hj
    omega)
  rw [wS_len] at h
  exact h
theorem fit_word {w : List Nat} {n k : Nat} (hw : ∀ j ∈ w, j < 4) (hn : 10 * w.length + 2 ≤ n) : Fit n k (.str (wS w)) := fit_str (word_shown w hw) hn
theorem Rul.fit {l : Nat} {rs : List Pr} (R : Rul l rs) (l4 : l ≤ 4) : Fit 1000 2 (rD rs) := by
  have one : ∀ p ∈ rs, Fit 71 1 (pD p) := fun p hp => by
    obtain ⟨h1, h2, h3, _, h5, h6⟩ := R.ok p hp
    exact (Fit.tup (FitAll.cons (fit_word (n := 32) (k := 0) (fun j hj => Nat.lt_of_lt_of_le (h5 j hj) l4) (by omega)) (FitAll.cons (fit_word (n := 32) (fun j hj => Nat.lt_of_lt_of_le (h6 j hj) l4) (by omega)) FitAll.nil))).mono (by omega) (Nat.le_refl _)
  have all : ∀ qs : List Pr, (∀ p ∈ qs, Fit 71 1 (pD p)) → FitAll (73 * qs.length) 1 (qs.map pD) := by
    intro qs
    induction qs with
    | nil => intro _; exact FitAll.nil
    | cons p qs ih =>
      intro h
      exact (FitAll.cons (h p List.mem_cons_self) (ih fun q hq => h q (List.mem_cons_of_mem _ hq))).mono (by rw [List.length_cons]; omega) (Nat.le_refl _)
  exact (Fit.tup (all rs one)).mono (by have := R.len; omega) (Nat.le_refl _)
def spRule : Sp := fun vs H Q _ => ∃ (d c : Addr) (l m : Nat), vs = [.ref d, .int l] ∧ Deck H d c m ∧ m ≤ 900000000 ∧ 1 ≤ l ∧ l ≤ 4 ∧
  ∀ (a : Addr) (rs : List Pr) (G : Hp), Rul l rs → RuleAt (Hd d c G) a rs → Deck G d c (m + 100) → Same (Hd d c H) (Hd d c G) → Q (.ref a) G

/-! ### what changes a word -/
/-- a stands in w at k -/
def At (w a : List Nat) (k : Nat) : Prop := (w.drop k).take a.length = a
theorem At.le {w a : List Nat} {k : Nat} (h : At w a k) (ha : 1 ≤ a.length) : k + a.length ≤ w.length := by
  have := congrArg List.length h
  rw [List.length_take, List.length_drop] at this
  omega
/-- the partner of the word of the pair that stands at k -/
def Hit (w : List Nat) (p : Pr) (k : Nat) (b : List Nat) : Prop := (At w p.1 k ∧ b = p.2) ∨ (At w p.2 k ∧ b = p.1)
def sw (p : Pr) : Pr := (p.2, p.1)
theorem Hit.sw {w : List Nat} {p : Pr} {k : Nat} {b : List Nat} : Hit w (sw p) k b ↔ Hit w p k b := Or.comm
/-- the change of a word -/
structure IsChg (rs : List Pr) (w : List Nat) (x : Nat × Nat × List Nat) : Prop where
  hit : ∃ p, rs[x.2.1]? = some p ∧ Hit w p x.1 x.2.2
  low : ∀ (k i : Nat) (p : Pr) (b : List Nat), rs[i]? = some p → Hit w p k b → x.1 < k ∨ (x.1 = k ∧ x.2.1 ≤ i)
def NoChg (rs : List Pr) (w : List Nat) : Prop := ∀ (k i : Nat) (p : Pr) (b : List Nat), rs[i]? = some p → ¬ Hit w p k b
theorem hit_one {l : Nat} {rs : List Pr} (R : Rul l rs) {w : List Nat} {i k : Nat} {p : Pr} {b b' : List Nat} (hp : rs[i]? = some p) (h : Hit w p k b) (h' : Hit w p k b') : b = b' := by
  obtain ⟨h1, _, h3, h4, _⟩ := R.ok p (List.mem_of_getElem? hp)
  have no : ¬ (At w p.1 k ∧ At w p.2 k) := fun ⟨a1, a2⟩ => h4 (by
    unfold At at a1 a2
    rw [h3] at a2
    exact a1.symm.trans a2)
  rcases h with ⟨a, rfl⟩ | ⟨a, rfl⟩ <;> rcases h' with ⟨a', rfl⟩ | ⟨a', rfl⟩
  · rfl
  · exact absurd ⟨a, a'⟩ no
  · exact absurd ⟨a', a⟩ no
  · rfl
theorem IsChg.one {l : Nat} {rs : List Pr} (R : Rul l rs) {w : List Nat} {x y : Nat × Nat × List Nat} (h : IsChg rs w x) (h' : IsChg rs w y) : x = y := by
  obtain ⟨p, p1, p2⟩ := h.hit
  obtain ⟨q, q1, q2⟩ := h'.hit
  have a := h.low _ _ _ _ q1 q2
  have b := h'.low _ _ _ _ p1 p2
  have e1 : x.1 = y.1 := by omega
  have e2 : x.2.1 = y.2.1 := by omega
  rw [← e2, p1] at q1
  cases q1
  rw [← e1] at q2
  have e3 := hit_one R p1 p2 q2
  obtain ⟨x1, x2, x3⟩ := x
  obtain ⟨y1, y2, y3⟩ := y
  simp only at e1 e2 e3
  rw [e1, e2, e3]
open Classical in
noncomputable def chg (rs : List Pr) (w : List Nat) : Option (Nat × Nat × List Nat) := if h : ∃ x, IsChg rs w x then some h.choose else none
theorem chg_some {l : Nat} {rs : List Pr} (R : Rul l rs) {w : List Nat} {x : Nat × Nat × List Nat} (h : IsChg rs w x) : chg rs w = some x := by
  unfold chg
  have e : ∃ x, IsChg rs w x := ⟨x, h⟩
  rw [dif_pos e]
  exact congrArg some (IsChg.one R e.choose_spec h)
theorem chg_none {rs : List Pr} {w : List Nat} (h : NoChg rs w) : chg rs w = none := by
  unfold chg
  have e : ¬ ∃ x, IsChg rs w x := fun ⟨x, hx⟩ => by
    obtain ⟨p, p1, p2⟩ := hx.hit
    exact h _ _ _ _ p1 p2
  rw [dif_neg e]
theorem chg_is {rs : List Pr} {w : List Nat} {x : Nat × Nat × List Nat} (h : chg rs w = some x) : IsChg rs w x := by
  unfold chg at h
  by_cases e : ∃ x, IsChg rs w x
  · rw [dif_pos e] at h
    cases h
    exact e.choose_spec
  · rw [dif_neg e] at h
    cases h
theorem chg_sw {l : Nat} {rs : List Pr} (R : Rul l rs) (R' : Rul l (rs.map sw)) (w : List Nat) : chg (rs.map sw) w = chg rs w := by
  have at' : ∀ {i : Nat} {p : Pr}, (rs.map sw)[i]? = some p → ∃ q, rs[i]? = some q ∧ p = sw q := fun {i p} h => by
    rw [List.getElem?_map] at h
    cases e : rs[i]? with
    | none => rw [e] at h; cases h
    | some q => rw [e] at h; exact ⟨q, rfl, (Option.some.inj h).symm⟩
  cases e : chg rs w with
  | some x =>
    obtain ⟨⟨p, p1, p2⟩, lo⟩ := chg_is e
    refine chg_some R' ⟨⟨sw p, by rw [List.getElem?_map, p1]; rfl, Hit.sw.mpr p2⟩, fun k i q b hq hb => ?_⟩
    obtain ⟨q', q1, rfl⟩ := at' hq
    exact lo k i q' b q1 (Hit.sw.mp hb)
  | none =>
    cases e' : chg (rs.map sw) w with
    | none => rfl
    | some x =>
      obtain ⟨⟨p, p1, p2⟩, lo⟩ := chg_is e'
      obtain ⟨q', q1, rfl⟩ := at' p1
      have := chg_some R (x := x) ⟨⟨q', q1, Hit.sw.mp p2⟩, fun k i q b hq hb => lo k i (sw q) b (by rw [List.getElem?_map, hq]; rfl) (Hit.sw.mpr hb)⟩
      rw [e] at this
      cases this
theorem Rul.sw {l : Nat} {rs : List Pr} (R : Rul l rs) : Rul l (rs.map sw) := by
  refine ⟨by rw [List.length_map]; exact R.len, fun p hp => ?_⟩
  obtain ⟨q, hq, rfl⟩ := List.mem_map.mp hp
  obtain ⟨h1, h2, h3, h4, h5, h6⟩ := R.ok q hq
  exact ⟨by show 1 ≤ q.2.length; omega, by show q.2.length ≤ 3; omega, h3.symm, fun e => h4 e.symm, h6, h5⟩
/-- the word that comes -/
def come (w : List Nat) (x : Nat × Nat × List Nat) : List Nat := w.take x.1 ++ x.2.2 ++ w.drop (x.1 + x.2.2.length)
/-- the value that tells it -/
def Res (w : List Nat) : Option (Nat × Nat × List Nat) → V → Hp → Prop
  | none, v, _ => v = .non
  | some x, v, G => ∃ t : Addr, v = .ref t ∧ G t = some (.tup [.int x.1, .int x.2.1, .str (wS (come w x))])
def spChg : Sp := fun vs H Q _ => ∃ (a : Addr) (l : Nat) (rs : List Pr) (w : List Nat), vs = [.ref a, .str (wS w)] ∧ RuleAt H a rs ∧ Rul l rs ∧ w.length ≤ 1000 ∧ ∀ (v : V) (G : Hp), Same H G → Res w (chg rs w) v G → Q v G
def resD (w : List Nat) : Option (Nat × Nat × List Nat) → PyData
  | none => .none
  | some x => .tuple [.int x.1, .int x.2.1, .str (wS (come w x))]
theorem Res.dt {K : PySem.W.Frag} {w : List Nat} {o : Option (Nat × Nat × List Nat)} {v : V} {G : Hp} (h : Res w o v G) : Dt K G v (resD w o) := by
  cases o with
  | none =>
    have e : v = .non := h
    rw [e]
    exact .non
  | some x =>
    obtain ⟨t, rfl, g⟩ := h
    exact .tup g (.cons (.int _) (.cons (.int _) (.cons (.str _) .nil)))

/-! ### texts -/
theorem add_inj : ∀ x y : List Nat, x.map (97 + ·) = y.map (97 + ·) → x = y
  | [], [], _ => rfl
  | [], b :: y, h => nomatch h
  | a :: x, [], h => nomatch h
  | a :: x, b :: y, h => by
    rw [List.map_cons, List.map_cons] at h
    injection h with h1 h2
    have e : a = b := by omega
    rw [e, add_inj x y h2]
theorem find_wS (w a : List Nat) (ha : 1 ≤ a.length) : (Txt.find (wS w) (wS a) = -1 ∧ ∀ k, ¬ At w a k) ∨ ∃ k : Nat, Txt.find (wS w) (wS a) = (k : Int) ∧ At w a k ∧ ∀ j, j < k → ¬ At w a j := by
  have iff : ∀ k, StrLaws.At (wS w) (wS a) (wS w).length k ↔ At w a k := fun k => by
    have e : Builtin.Str.subAt (wS w) (wS a) k = true ↔ At w a k := by
      unfold Builtin.Str.subAt At
      rw [wS_len]
      show ((((w.map (97 + ·)).toArray).extract k (k + a.length)) == ((a.map (97 + ·)).toArray)) = true ↔ _
      rw [beq_iff_eq, ← Array.toList_inj]
      simp only [List.extract_toArray, List.extract_eq_take_drop, Nat.add_sub_cancel_left, ← List.map_drop, ← List.map_take]
      exact ⟨fun h => add_inj _ _ h, fun h => by rw [h]⟩
    constructor
    · intro h
      exact e.mp h.2
    · intro h
      refine ⟨?_, e.mpr h⟩
      rw [wS_len, wS_len]
      exact h.le ha
  unfold Txt.find
  rcases StrLaws.occ_head (wS w) (wS a) 1 (Nat.le_refl 1) with ⟨h1, h2⟩ | ⟨i, r, h1, h2, h3⟩
  · rw [h1]
    exact .inl ⟨rfl, fun k hk => h2 k ((iff k).mpr hk)⟩
  · rw [h1]
    exact .inr ⟨i, rfl, (iff i).mp h2, fun j hj hk => h3 j hj ((iff j).mpr hk)⟩
theorem cutS_eq (u : List Nat) (lo hi : Option Int) : cutS (wS u) lo hi = wS ((u.drop (HT.sIx u.length 0 lo)).take (HT.sIx u.length u.length hi - HT.sIx u.length 0 lo)) := by
  unfold cutS
  show (⟨_⟩ : Str) = ⟨_⟩
  rw [wS_len]
  congr 1
  congr 1
  show ((((u.map (97 + ·)).toArray).toList.drop _).take _) = _
  rw [List.map_take, List.map_drop]
theorem sIx_nat (n d k : Nat) : HT.sIx n d (some (k : Int)) = min k n := by
  unfold HT.sIx
  simp
  omega
theorem cut_take (u : List Nat) (k : Nat) : cutS (wS u) none (some (k : Int)) = wS (u.take k) := by
  rw [cutS_eq, sIx_nat]
  show wS ((u.drop 0).take (min k u.length - 0)) = _
  rw [List.drop_zero, Nat.sub_zero, show u.take (min k u.length) = u.take k from List.take_eq_take_iff.mpr (by omega)]
theorem cut_drop (u : List Nat) (k : Nat) : cutS (wS u) (some (k : Int)) none = wS (u.drop k) := by
  rw [cutS_eq, sIx_nat]
  show wS ((u.drop (min k u.length)).take (u.length - min k u.length)) = _
  congr 1
  by_cases h : k ≤ u.length
  · rw [Nat.min_eq_left h, List.take_of_length_le (by rw [List.length_drop]; exact Nat.le_refl _)]
  · have e : min k u.length = u.length := by omega
    rw [e, List.drop_of_length_le (Nat.le_refl _), List.drop_of_length_le (by omega), List.take_nil]
theorem cut_mid (u : List Nat) (k n : Nat) : cutS (wS u) (some (k : Int)) (some ((k + n : Nat) : Int)) = wS ((u.drop k).take n) := by
  rw [cutS_eq, sIx_nat, sIx_nat]
  congr 1
  by_cases h : k ≤ u.length
  · rw [Nat.min_eq_left h]
    exact List.take_eq_take_iff.mpr (by rw [List.length_drop]; omega)
  · have e : min k u.length = u.length := by omega
    have e2 : min (k + n) u.length = u.length := by omega
    rw [e, e2, List.drop_of_length_le (Nat.le_refl _), List.drop_of_length_le (by omega), List.take_nil, List.take_nil]
end KR
/-! What rule_error tells, over data; list(text), list.extend(tuple), list == []. No row. -/
namespace KX
open PySem PySem.Spec PyProof.Rows L2 GL KC GZ KW KR

/-! ### list(text) -/
def rListX : List V → Hp → VK → Prop := fun xs H Q => ∃ z : Str, xs = [.str z] ∧ z.length ≤ sizeLine ∧ ∀ q, H q = none → Q (.ref q) (upd H q (.lst (sgs z)))
theorem call_listX {X : Cx} (hc : X.calm = true) : CallR X (.type "list") rListX := by
  intro pins s σ H xs us Q I r h
  obtain ⟨z, rfl, hz, q⟩ := h
  obtain ⟨u, rfl, rx⟩ := vals1 r
  obtain ⟨t, rfl⟩ := rx
  refine call_list_str (I.ok.hd hc) z t (fun h' tk acc c' hk e hi => ?_) hz
  refine ⟨.ref s.heap.objs.size, upd H s.heap.objs.size (.lst (sgs z)), I.laid hk (Nat.le_refl _) ⟨by unfold sgs; rw [List.length_map, Array.length_toList]; exact hz, acc.toList, c', ?_, by rw [Array.toArray_toList]; exact e⟩, rfl, q _ (I.hok.fresh (Nat.le_refl _))⟩
  refine vals_of_idx _ _ (by unfold sgs; rw [List.length_map, Array.length_toList, Array.length_toList]; exact hi.1) fun j u hj => ?_
  obtain ⟨c, t', hc, rfl⟩ := hi.2 j u (by rw [← Array.getElem?_toList]; exact hj)
  refine ⟨.str ⟨#[c]⟩, ?_, ⟨_, rfl⟩⟩
  unfold sgs
  rw [List.getElem?_map, Array.getElem?_toList, hc]
  rfl

/-! ### l.extend(t), t a tuple -/
theorem extend_tup (l : Addr) (items : Array Value) (n : Nat) (b : Addr) (items2 : Array Value) (n2 : Nat) (dd : Option Addr) (sl : Array (Option Value)) (hs0 : ¬(!items.isEmpty && Builtin.List.listTooLong (items.size + items2.size)) = true) (hs1 : items.size ≤ sizeLine) (hs2 : items.size + items2.size ≤ sizeLine + 1) :
    Meets (Builtin.«list.extend» ⟨[.ref l, .ref b], []⟩) (fun _ R s => s.heap.get? l = some { cls := .type "list", dict := none, data := .seq items n, slots := #[] } ∧ s.heap.get? b = some { cls := .type "tuple", dict := dd, data := .seq items2 n2, slots := sl } ∧ R (.ok (.ret Value.none)) { s with heap := s.heap.update l (Obj.mapSeq fun x => x ++ items2), toks := s.toks }) :=
  .of_wp fun prog w A R s h => by
    obtain ⟨hp, g, d, tk, os⟩ := s; obtain ⟨hl, hb, h⟩ := h; have f1 := AutoSeq1.idx_int; have f2 := AutoSeq1.sub_tuple_tuple; have f3 := AutoSeq1.sub_list_list; have f4 := AutoSeq1.sub_tuple_list; have f5 := AutoSeq1.sub_list_tuple;
    have hz' : (items ++ items2).size ≤ sizeLine + 1 := by rw [Array.size_append]; exact hs2
    wp_walk using (wpAny_updateSeq hl rfl (hz := hs1) (_hz' := hz')), AutoSeq1.wpAny_loadPart' hl, AutoSeq1.wpAny_loadPart' hb; exact ⟨_, rfl, h⟩
def rExtT (K : PySem.W.Frag) : V → List V → Hp → VK → Prop := fun x vs H Q => ∃ l b xs zs, x = .ref l ∧ vs = [.ref b] ∧ H l = some (.lst xs) ∧ H b = some (.tup zs) ∧ xs.length + zs.length ≤ sizeLine ∧ Q .non (upd H l (.lst (xs ++ zs)))
theorem mt_extendT {X : Cx} : MtM X "list.extend" (rExtT X.K) := by
  intro pins s σ H x vs v us Q I rx rv h
  obtain ⟨l, b, xs, zs, rfl, rfl, hH, hB, hz, q⟩ := h
  cases rx
  obtain ⟨u, rfl, ru⟩ := rv.one
  cases ru
  obtain ⟨z, its, n, r, hl, e⟩ := I.lstM hH
  obtain ⟨its2, o2, n2, r2, e2, c2, d2⟩ := tup_at I hB
  have hl2 := r2.length
  obtain ⟨cls, dict, data, slots⟩ := o2
  cases c2
  cases d2
  have hsz : its.toArray.size + its2.toArray.size ≤ sizeLine := by rw [List.size_toArray, List.size_toArray]; omega
  have hlong : ¬ (!its.toArray.isEmpty && Builtin.List.listTooLong (its.toArray.size + its2.toArray.size)) = true := by
    rw [notLongL hsz, Bool.and_false]
    exact Bool.false_ne_true
  refine call_meets F.slot_list_extend ⟨_, e, rfl⟩ F.entry_list_extend (F.args_list_extend_2 _ _)
    (extend_tup l its.toArray n b its2.toArray n2 _ _ hlong (by rw [List.size_toArray]; omega) (by omega)) ⟨e, e2, ?_⟩
  refine ⟨.non, _, I.lset (its' := its ++ its2) hH e (by simp) (r.append r2) ?_, rfl, q⟩
  rw [List.length_append]
  omega

/-! ### a list against an empty one -/
def rEqL0 : R2 := fun x y H Q => ∃ (a b : Addr) (xs : List V), x = .ref a ∧ y = .ref b ∧ H a = some (.lst xs) ∧ H b = some (.lst []) ∧ Q (.bl xs.isEmpty) H
theorem op_eqL0 {X : Cx} (hu : X.A.units < cLine) : OpR X (compareOp .Eq) rEqL0 := by
  intro pins s σ H x y v u Q I rx ry h
  obtain ⟨a, b, xs, rfl, rfl, ha, hb, q⟩ := h
  cases rx
  cases ry
  obtain ⟨its, n, rv, e⟩ := lst_at I ha
  obtain ⟨its2, n2, rv2, e2⟩ := lst_at I hb
  cases rv2
  have l1 : s.heap.IsList a its.toArray := ⟨_, e, rfl, n, rfl⟩
  have l2 : s.heap.IsList b ([] : List Value).toArray := ⟨_, e2, rfl, n2, rfl⟩
  cases its with
  | nil =>
    cases rv
    exact SeqAt.RcAt.lists (e := fun _ => true) l1 l2 rfl hu (fun j h1 _ => absurd h1 (Nat.not_lt_zero j)) X.prog X.w _ _ ⟨.bl true, H, I, rfl, q⟩
  | cons y ys =>
    cases rv with
    | cons r1 r2 => exact SeqAt.RcAt.lists_lengths l1 l2 rfl hu X.prog X.w _ _ ⟨.bl false, H, I, rfl, q⟩

/-! ### isinstance over data -/
def isTup : PyData → Bool
  | .tuple _ => true
  | _ => false
def isStr : PyData → Bool
  | .str _ => true
  | _ => false
theorem kf_NoneType_tuple : kitB "NoneType" "tuple" = some false := by decide +kernel
theorem kf_bool_tuple : kitB "bool" "tuple" = some false := by decide +kernel
theorem kf_int_tuple : kitB "int" "tuple" = some false := by decide +kernel
theorem kf_str_tuple : kitB "str" "tuple" = some false := by decide +kernel
theorem kf_list_tuple : kitB "list" "tuple" = some false := by decide +kernel
theorem kf_tuple_tuple : kitB "tuple" "tuple" = some true := by decide +kernel
theorem kf_dict_tuple : kitB "dict" "tuple" = some false := by decide +kernel
theorem kf_NoneType_str : kitB "NoneType" "str" = some false := by decide +kernel
theorem kf_bool_str : kitB "bool" "str" = some false := by decide +kernel
theorem kf_int_str : kitB "int" "str" = some false := by decide +kernel
theorem kf_str_str : kitB "str" "str" = some true := by decide +kernel
theorem kf_list_str : kitB "list" "str" = some false := by decide +kernel
theorem kf_tuple_str : kitB "tuple" "str" = some false := by decide +kernel
theorem kf_dict_str : kitB "dict" "str" = some false := by decide +kernel
section
variable {K : PySem.W.Frag} {H : Hp} {v : V} {d : PyData}
theorem is_tuple (h : Dt K H v d) : ∃ t, TyX K H v t ∧ PySem.W.kitOne K t (.type "tuple") = some (isTup d) := by
  cases h with
  | non => exact ⟨_, .base .non, kit_ty kf_NoneType_tuple⟩
  | bl b => exact ⟨_, .base (.bl b), kit_ty kf_bool_tuple⟩
  | int i => exact ⟨_, .base (.int i), kit_ty kf_int_tuple⟩
  | str x => exact ⟨_, .base (.str x), kit_ty kf_str_tuple⟩
  | lst e _ => exact ⟨_, .base (.lst e), kit_ty kf_list_tuple⟩
  | tup e _ => exact ⟨_, .base (.tup e), kit_ty kf_tuple_tuple⟩
  | dic e => exact ⟨_, .base (.dK e), kit_ty kf_dict_tuple⟩
theorem is_str (h : Dt K H v d) : ∃ t, TyX K H v t ∧ PySem.W.kitOne K t (.type "str") = some (isStr d) := by
  cases h with
  | non => exact ⟨_, .base .non, kit_ty kf_NoneType_str⟩
  | bl b => exact ⟨_, .base (.bl b), kit_ty kf_bool_str⟩
  | int i => exact ⟨_, .base (.int i), kit_ty kf_int_str⟩
  | str x => exact ⟨_, .base (.str x), kit_ty kf_str_str⟩
  | lst e _ => exact ⟨_, .base (.lst e), kit_ty kf_list_str⟩
  | tup e _ => exact ⟨_, .base (.tup e), kit_ty kf_tuple_str⟩
  | dic e => exact ⟨_, .base (.dK e), kit_ty kf_dict_str⟩
end

/-! ### what rule_error tells -/
def Small (d : PyData) : Prop := wt d ≤ 1000000
theorem Small.len {ds : List PyData} (h : Small (.tuple ds)) : ds.length ≤ 1000000 := by
  have := len_wts ds
  have h' : wts ds + 3 ≤ 1000000 := by simpa only [Small, wt] using h
  omega
theorem Small.mem {d : PyData} {ds : List PyData} (h : Small (.tuple ds)) (m : d ∈ ds) : Small d := by
  have := mem_wts m
  have h' : wts ds + 3 ≤ 1000000 := by simpa only [Small, wt] using h
  show wt d ≤ 1000000
  omega
theorem reprChar_ge (q c : Nat) : 1 ≤ (Builtin.Str.reprChar q c).length := by
  unfold Builtin.Str.reprChar
  dsimp only
  repeat' split
  all_goals simp only [List.length_append, List.length_cons, List.length_nil] <;> omega
theorem foldl_repr_more (q : Nat) : ∀ (l : List Nat) (acc : Array Nat), acc.size + l.length ≤ (l.foldl (fun out c => out ++ (Builtin.Str.reprChar q c).toArray) acc).size
  | [], acc => Nat.le_refl _
  | c :: r, acc => by
    have ih := foldl_repr_more q r (acc ++ (Builtin.Str.reprChar q c).toArray)
    have h := reprChar_ge q c
    simp only [List.foldl_cons, List.length_cons]
    simp only [Array.size_append, List.size_toArray] at ih
    omega
theorem Small.str {x : Str} (h : Small (.str x)) : x.length ≤ 1000000 := by
  have h' : (PyData.str x).shown.length ≤ 1000000 := by simpa only [Small, wt] using h
  rw [PyData.shown_str] at h'
  refine Nat.le_trans ?_ h'
  unfold reprText
  show _ ≤ ((x.cps.foldl (fun out c => out ++ (Builtin.Str.reprChar (reprQuote x) c).toArray) #[reprQuote x]).push (reprQuote x)).size
  rw [Array.size_push, ← Array.foldl_toList]
  have := foldl_repr_more (reprQuote x) x.cps.toList #[reprQuote x]
  have e : x.cps.toList.length = x.length := by simp [Str.length]
  rw [e] at this
  omega
/-- the letters -/
def ab (l : Nat) : Str := wS (List.range l)
def inA (l : Nat) (c : Nat) : Bool := decide (c ∈ (ab l).cps.toList)
def okP (l : Nat) (x : Str) : Bool := decide (1 ≤ x.length) && decide (x.length ≤ 3) && x.cps.toList.all (inA l)
def pieceD (l : Nat) : PyData → Option Str
  | .str x => if okP l x then some x else none
  | _ => none
def pairD (l : Nat) : PyData → Option (Str × Str)
  | .tuple [a, b] => match pieceD l a, pieceD l b with
    | some x, some y => if x.length = y.length ∧ x ≠ y then some (x, y) else none
    | _, _ => none
  | _ => none
def walkE (l : Nat) : Nat → List Str → List PyData → Option Nat
  | _, _, [] => none
  | i, tk, d :: ds => match pairD l d with
    | none => some i
    | some (x, y) => if x ∈ tk ∨ y ∈ tk then some i else walkE l (i + 1) (tk ++ [x, y]) ds
def errD (l : Nat) : PyData → PyData
  | .tuple ds => match walkE l 0 [] ds with
    | some i => .tuple [.int i, .str "pair"]
    | none => if 6 < ds.length then .tuple [.none, .str "many"] else .none
  | _ => .tuple [.none, .str "rule"]
theorem piece_str {l : Nat} {d : PyData} {x : Str} (h : pieceD l d = some x) : d = .str x ∧ okP l x = true := by
  cases d with
  | str y =>
    simp only [pieceD] at h
    split at h
    · cases h; exact ⟨rfl, by assumption⟩
    · cases h
  | _ => simp [pieceD] at h
theorem pair_two {l : Nat} {d : PyData} {x y : Str} (h : pairD l d = some (x, y)) : d = .tuple [.str x, .str y] ∧ x.length = y.length ∧ x ≠ y ∧ okP l x = true ∧ okP l y = true := by
  unfold pairD at h
  split at h
  · split at h
    · rename_i a b x' y' e1 e2
      split at h
      · rename_i c
        cases h
        obtain ⟨rfl, o1⟩ := piece_str e1
        obtain ⟨rfl, o2⟩ := piece_str e2
        exact ⟨rfl, c.1, c.2, o1, o2⟩
      · cases h
    · cases h
  · cases h
theorem pair_no {l : Nat} {ds : List PyData} (h : ds.length ≠ 2) : pairD l (.tuple ds) = none := by
  unfold pairD
  split
  · rename_i e
    cases e
    exact absurd rfl h
  · rfl
theorem inV_strs (x : Str) (tk : List Str) : inV (.str x) (tk.map V.str) = decide (x ∈ tk) := by
  unfold inV
  induction tk with
  | nil => rfl
  | cons y ys ih =>
    rw [List.map_cons, List.any_cons, ih]
    have e : eqV (.str y) (.str x) = decide (x = y) := by
      by_cases c : x = y
      · subst c; simp [eqV]
      · have c' : y ≠ x := fun z => c z.symm
        simp [eqV, c, c']
    rw [e]
    simp [Bool.decide_or]
theorem flat_strs (tk : List Str) : (tk.map V.str).all flatV = true := by
  rw [List.all_eq_true]; intro x hx; obtain ⟨y, _, rfl⟩ := List.mem_map.mp hx; rfl
def spPiece (K : PySem.W.Frag) : Sp := fun vs H Q _ => ∃ (l : Nat) (v : V) (d : PyData), vs = [.int l, v] ∧ Dt K H v d ∧ Small d ∧ 1 ≤ l ∧ l ≤ 4 ∧ ∀ G, Same H G → Q (.bl (pieceD l d).isSome) G
def spLPiece (K : PySem.W.Frag) : Sp := fun vs H Q _ => ∃ (l : Nat) (v : V) (d : PyData), vs = [v, .int l] ∧ Dt K H v d ∧ Small d ∧ 1 ≤ l ∧ l ≤ 4 ∧ ∀ G, Same H G → Q (.bl (pieceD l d).isSome) G
def spPair (K : PySem.W.Frag) : Sp := fun vs H Q _ => ∃ (l : Nat) (v : V) (d : PyData), vs = [.int l, v] ∧ Dt K H v d ∧ Small d ∧ 1 ≤ l ∧ l ≤ 4 ∧ ∀ G, Same H G → Q (.bl (pairD l d).isSome) G
def spRErr (K : PySem.W.Frag) : Sp := fun vs H Q _ => ∃ (l : Nat) (v : V) (d : PyData), vs = [.int l, v] ∧ Dt K H v d ∧ Small d ∧ 1 ≤ l ∧ l ≤ 4 ∧ ∀ v' G, Same H G → Dt K G v' (errD l d) → Q v' G
end KX
namespace K27
open PySem L2 GL KC
def top (i : Nat) : Stmt := PySem.Challenge.pw_pairedaway_k27_rules_with_errors.main.body.getD i (.Pass ⟨0, 0, 0, 0⟩)
abbrev sDeck : Stmt := top 8
abbrev sDraw : Stmt := top 9
abbrev sOne : Stmt := top 10
section
variable {P : Program} {w : World} {K : PySem.W.Frag} {mg : Str → Option Value} {base : Heap}
theorem scDeck : FnScope ["_law_script", "_law_cell"] ["_law_script"] (defScope sDeck) := ⟨rfl, rfl, rfl, by decide +kernel, rfl, by decide +kernel, by decide +kernel⟩
theorem ok_deck {f : Addr} {fd : FuncData} (F : Fun K "_law_deck" "_law_deck" sDeck f fd) (T : TxC mg) : FnOk P w K mg base CX0 1 f fd ["_law_script"] (spDeck K) := by
  refine F.ok scDeck (fun vs H Q E h => ?_) (fun cdv A outer s H vs Q E hr h => ?_)
  · obtain ⟨a, ns, rfl, _⟩ := h
    rfl
  obtain ⟨a, ns, rfl, hS, hl, q⟩ := h
  refine ⟨_, pss_one (ps_ret (pe_lst (pa_cons (pe_lc (own := [("_law_cell", 1)]) (g := gName 1) (tt := tYes) rfl scDeck.nd (pi_list (pe_slice sl_list (pv 0) po_none (po_some pe_int)))
      (blkOk_by (own := [("_law_cell", 1)]) (N := ["_law_script", "_law_cell"]) (sc := defScope sDeck) (by decide +kernel)) (fun _ _ _ _ _ => pg_name (i := 1) scDeck.nd rfl (Or.inl rfl)) (fun _ _ _ _ _ => pts_nil)
      (fun _ _ _ _ _ => pe_callB call_absS (by rfl) T.abs (by decide +kernel) (pa_cons (pv 1) pa_nil))) (pa_cons pe_int pa_nil)))), ?_⟩
  refine ⟨_, rfl, _, rfl, a, _, rfl, hS, fun p np => ?_⟩
  have isI : ∀ x ∈ cutV (ns.map V.int) none (some 63), ∃ i : Int, x = .int i := fun x hx => by
    obtain ⟨i, _, e⟩ := List.mem_map.mp (cut_mem hx)
    exact ⟨i, e.symm⟩
  have ll : (cutV (ns.map V.int) none (some 63)).length ≤ 63 := by
    have := cutV_length (ns.map V.int) none (some 63)
    rw [List.length_map] at this
    omega
  generalize cutV (ns.map V.int) none (some 63) = xs at isI ll
  have sp : Same H (upd H p (.lst xs)) := same_new np _
  refine ⟨p, rfl, ⟨_, .inl (.inl upd_same)⟩, fun L nL => lc_list (K := K) (a := p) (xs := xs) (fun i G => Same (upd H p (.lst xs)) G ∧ ∃ ys : List Int, G L = some (.lst (ys.map V.int)) ∧ ys.length = i ∧ ∀ y ∈ ys, 0 ≤ y)
    ⟨same_new nL _, [], upd_same, rfl, fun y z => nomatch z⟩ (fun i G _ h => .inl (.inl (h.1 _ _ upd_same))) (fun i x G hx h => ?_) fun G h => ?_⟩
  · obtain ⟨s1, ys, y1, y2, y3⟩ := h
    obtain ⟨z, rfl⟩ := isI x (List.mem_of_getElem? hx)
    have il : i < xs.length := (List.getElem?_eq_some_iff.mp hx).1
    refine ⟨rfl, _, rfl, z, rfl, _, y1, by rw [List.length_map, y2]; show i < 2 ^ 24; omega, same_grow nL s1 _, ys ++ [if z < 0 then -z else z], by rw [upd_same, List.map_append]; rfl, by rw [List.length_append, y2]; rfl, ?_⟩
    intro y hy
    rcases List.mem_append.mp hy with hy | hy
    · exact y3 y hy
    · rw [List.mem_singleton.mp hy]
      split <;> omega
  · obtain ⟨s1, ys, y1, y2, y3⟩ := h
    refine ⟨by show 2 ≤ 2 ^ 24; decide, fun d nd => ?_⟩
    have sG : Same H G := sp.trans s1
    have ndL : d ≠ L := fun e => by rw [e, y1] at nd; cases nd
    have nHL : H L = none := sp.free nL
    refine q d L _ (sG.trans (same_new nd _)) (sG.free nd) nHL ⟨ndL, ys, 0, upd_same, by rw [upd_ne ndL.symm]; exact y1, by omega, y3, Nat.le_refl _⟩
theorem scDraw : FnScope ["_law_deck_here", "_law_many", "_law_cell", "_law_at", "_law_mixed"] ["_law_deck_here", "_law_many"] (defScope sDraw) := ⟨rfl, rfl, rfl, by decide +kernel, rfl, by decide +kernel, by decide +kernel⟩
theorem ok_draw {f : Addr} {fd : FuncData} (F : Fun K "_law_draw" "_law_draw" sDraw f fd) (T : TxC mg) : FnOk P w K mg base CX0 1 f fd ["_law_deck_here", "_law_many"] spDraw := by
  refine F.ok scDraw (fun vs H Q E h => ?_) (fun cdv A outer s H vs Q E hr h => ?_)
  · obtain ⟨d, c, many, m, rfl, _⟩ := h
    rfl
  obtain ⟨d, c, many, m, rfl, D, hm, p1, p2, q⟩ := h
  refine ⟨_, pss_cons (ps_asg (pe_op op_add (pe_ix ix_list (pv 0) pe_int (fun _ _ => rfl)) pe_int) (pg_sub (pv 0) pe_int set_list))
    (pss_cons (ps_asg (pe_tup (pa_cons pe_int (pa_cons (pe_un un_neg pe_int) pa_nil))) (pg_tup (by rfl) (pgs_cons (pg_name (i := 2) scDraw.nd rfl (Or.inl rfl)) (pgs_cons (pg_name (i := 3) scDraw.nd rfl (Or.inl rfl)) pgs_nil))))
    (pss_cons (ps_if (pt_cmpR op_gt (pe_callB call_len_seq (by rfl) T.len PySem.boot_len (pa_cons (pe_ix ix_list (pv 0) pe_int (fun _ _ => rfl)) pa_nil)) pe_int (nomark _))
      (pss_cons (ps_set (i := 3) scDraw.nd rfl (Or.inl rfl) (pe_op op_mod (pe_callTy call_int1 (by rfl) T.int (by decide +kernel) (pa_cons (pe_ix ix_list (pv 0) pe_int (fun _ _ => rfl)) pa_nil)) (pe_callB call_len_seq (by rfl) T.len PySem.boot_len (pa_cons (pe_ix ix_list (pv 0) pe_int (fun _ _ => rfl)) pa_nil))))
      (pss_one (ps_set (i := 2) scDraw.nd rfl (Or.inl rfl) (pe_ix ix_list (pe_ix ix_list (pv 0) pe_int (fun _ _ => rfl)) (pv 3) (fun _ _ => rfl))))) pss_nil)
    (pss_cons (ps_if (pt_cmpR op_ge (pv 2) (pe_op op_pow pe_int pe_int) (nomark _))
      (pss_cons (ps_asg (pe_op op_fdiv (pe_callTy call_int1 (by rfl) T.int (by decide +kernel) (pa_cons (pv 2) pa_nil)) (pv 1)) (pg_sub (pe_ix ix_list (pv 0) pe_int (fun _ _ => rfl)) (pv 3) set_list))
      (pss_one (ps_ret (pe_op op_mod (pe_callTy call_int1 (by rfl) T.int (by decide +kernel) (pa_cons (pv 2) pa_nil)) (pv 1))))) pss_nil)
    (pss_cons (ps_set (i := 4) scDraw.nd rfl (Or.inl rfl) (pe_op op_add (pe_op op_add (pe_op op_mod (pe_callTy call_int1 (by rfl) T.int (by decide +kernel) (pa_cons (pv 2) pa_nil)) pe_int) (pe_op op_mul pe_int (pe_ix ix_list (pv 0) pe_int (fun _ _ => rfl)))) pe_int))
    (pss_one (ps_ret (pe_op op_mod (pe_callTy call_int1 (by rfl) T.int (by decide +kernel) (pa_cons (pe_op op_mod (pe_callTy call_int1 (by rfl) T.int (by decide +kernel) (pa_cons (pe_op op_pow (pv 4) pe_int) pa_nil)) pe_int) pa_nil)) (pv 1)))))))), ?_⟩
  obtain ⟨ne, L, n, h1, h2, h3, h4, h5⟩ := D
  -- the count goes up
  refine ⟨_, rfl, d, _, 1, .int n, rfl, rfl, .inl (.inl h1), rfl, _, _, rfl, rfl, _, rfl, d, _, 1, 1, rfl, rfl, h1, rfl, ?_⟩
  have e1 : (List.set [V.ref c, V.int n] 1 (V.int ((n : Int) + 1))) = [.ref c, .int ((n + 1 : Nat) : Int)] := rfl
  rw [e1]
  have g1 : upd H d (.lst [.ref c, .int ((n + 1 : Nat) : Int)]) d = some (.lst [.ref c, .int ((n + 1 : Nat) : Int)]) := upd_same
  have g2 : upd H d (.lst [.ref c, .int ((n + 1 : Nat) : Int)]) c = some (.lst (L.map V.int)) := by rw [upd_ne ne.symm]; exact h2
  have sH : Same (Hd d c H) (Hd d c (upd H d (.lst [.ref c, .int ((n + 1 : Nat) : Int)]))) := hd_put (.inl rfl) _
  generalize upd H d (.lst [.ref c, .int ((n + 1 : Nat) : Int)]) = H1 at g1 g2 sH
  have D1 : Deck H1 d c (m + 1) := ⟨ne, L, n + 1, g1, g2, h3, h4, Nat.succ_le_succ h5⟩
  -- the cell and its place
  refine ⟨_, rfl, by show 2 ≤ 2 ^ 24; decide, fun p np => ?_⟩
  replace sH := sH.trans (hd_new np (.tup [V.int 0, V.int (-1)]))
  have gt : upd H1 p (.tup [V.int 0, V.int (-1)]) p = some (.tup [V.int 0, V.int (-1)]) := upd_same
  replace g1 := same_new np (.tup [V.int 0, V.int (-1)]) _ _ g1
  replace g2 := same_new np (.tup [V.int 0, V.int (-1)]) _ _ g2
  replace D1 := D1.new np (.tup [V.int 0, V.int (-1)])
  generalize upd H1 p (.tup [V.int 0, V.int (-1)]) = H2 at sH gt g1 g2 D1
  refine ⟨p, _, rfl, .inl (.inl gt), rfl, _, _, rfl, _, _, rfl, rfl, ?_⟩
  refine ⟨_, rfl, d, _, 0, _, rfl, rfl, .inl (.inl g1), rfl, c, _, rfl, .inl (.inl (.inl g2)), _, _, rfl, rfl, _, rfl, ?_⟩
  have hL : ((L.map V.int).length : Int) = (L.length : Int) := by rw [List.length_map]
  refine ite2 (fun c0 => ?_) (fun c0 => ?_)
  · have lp : 0 < L.length := by have := of_decide_eq_true c0; rw [hL] at this; omega
    have k0 : 0 ≤ ((n + 1 : Nat) : Int) % ((L.map V.int).length : Int) := Int.emod_nonneg _ (by rw [hL]; omega)
    have k1 : ((n + 1 : Nat) : Int) % ((L.map V.int).length : Int) < (L.length : Int) := by
      have := Int.emod_lt_of_pos ((n + 1 : Nat) : Int) (b := ((L.map V.int).length : Int)) (by rw [hL]; omega)
      rw [hL] at this ⊢
      exact this
    have hk : ∀ z : Int, (10 : Int) ^ (18 : Int).toNat ≤ z → ∃ j, ixN (L.map V.int).length (((n + 1 : Nat) : Int) % ((L.map V.int).length : Int)) = some j ∧ j < L.length := fun _ _ => ⟨_, by unfold ixN; rw [if_pos k0, if_pos (by omega)], by omega⟩
    obtain ⟨j0, ej⟩ : ∃ j : Nat, ((n + 1 : Nat) : Int) % ((L.map V.int).length : Int) = (j : Int) := ⟨_, (Int.toNat_of_nonneg k0).symm⟩
    have jl : j0 < L.length := by rw [ej] at k1; omega
    obtain ⟨z, hz0⟩ : ∃ z, L[j0]? = some z := ⟨_, List.getElem?_eq_getElem jl⟩
    have hz : 0 ≤ z := h4 _ (List.mem_of_getElem? hz0)
    replace hk := hk z
    refine ⟨_, rfl, d, _, 1, _, rfl, rfl, .inl (.inl g1), rfl, .inl ⟨_, rfl, ?_⟩⟩
    refine ⟨_, rfl, d, _, 0, _, rfl, rfl, .inl (.inl g1), rfl, c, _, rfl, .inl (.inl (.inl g2)), _, _, rfl, rfl, (by rw [hL]; show (0 : Int) < L.length; omega), ?_⟩
    refine ⟨_, rfl, d, _, 0, _, rfl, rfl, .inl (.inl g1), rfl, _, rfl, c, _, _, _, rfl, rfl, .inl (.inl g2), at_of ej (by rw [List.getElem?_map, hz0]; rfl), ?_⟩
    refine ⟨_, rfl, _, _, rfl, rfl, ⟨by decide, by decide, by decide⟩, _, _, rfl, rfl, _, rfl, ite2 (fun c1 => ?_) (fun c1 => ?_)⟩
    · obtain ⟨j, hj, hj2⟩ := hk (of_decide_eq_true c1)
      refine ⟨_, rfl, .inl ⟨_, rfl, _, rfl, _, _, rfl, rfl, ⟨p1, p2⟩, _, rfl, d, _, 0, _, rfl, rfl, .inl (.inl g1), rfl, _, rfl, c, _, _, j, rfl, rfl, g2, hj, ?_⟩⟩
      refine ⟨_, rfl, .inl ⟨_, rfl, _, rfl, _, _, rfl, rfl, p1, ?_⟩⟩
      refine q _ _ (Int.emod_nonneg _ (by omega)) (Int.emod_lt_of_pos _ p1) ⟨ne, L.set j (z / many), n + 1, ?_, ?_, ?_, ?_, Nat.succ_le_succ h5⟩ (sH.trans (hd_put (.inr rfl) _))
      · rw [upd_ne ne]; exact g1
      · rw [upd_same, List.map_set]
      · rw [List.length_set]; exact h3
      · intro x hx
        rcases List.mem_or_eq_of_mem_set hx with hx | hx
        · exact h4 x hx
        · rw [hx]; exact Int.ediv_nonneg hz (by omega)
    · have b1 : 0 ≤ z % 2147483563 := Int.emod_nonneg _ (by decide)
      have b2 : z % 2147483563 < 2147483563 := Int.emod_lt_of_pos _ (by decide)
      refine ⟨_, rfl, .inl ⟨_, rfl, _, _, rfl, rfl, by show (0 : Int) < 2147483563; decide, _, rfl, d, _, 1, _, rfl, rfl, .inl (.inl g1), rfl, _, _, rfl, rfl, .inl ⟨by decide, by decide⟩, _, _, rfl, rfl, _, _, rfl, rfl, ?_⟩⟩
      refine ⟨_, rfl, _, _, rfl, rfl, ⟨by decide, by decide, ?_⟩, .inl ⟨_, rfl, _, _, rfl, rfl, by show (0 : Int) < 2147483629; decide, .inl ⟨_, rfl, _, rfl, _, _, rfl, rfl, p1, ?_⟩⟩⟩
      · show (z % 2147483563 + 8117 * ((n + 1 : Nat) : Int) + 3).natAbs < 2 ^ 64
        omega
      · exact q _ _ (Int.emod_nonneg _ (by omega)) (Int.emod_lt_of_pos _ p1) D1 sH
  · have hz : (0 : Int) ≤ 0 := Int.le_refl 0
    have hk : (10 : Int) ^ (18 : Int).toNat ≤ 0 → ∃ j, ixN (L.map V.int).length (-1) = some j ∧ j < L.length := fun h => absurd h (by decide)
    refine ⟨_, rfl, _, _, rfl, rfl, ⟨by decide, by decide, by decide⟩, _, _, rfl, rfl, _, rfl, ite2 (fun c1 => ?_) (fun c1 => ?_)⟩
    · obtain ⟨j, hj, hj2⟩ := hk (of_decide_eq_true c1)
      refine ⟨_, rfl, .inl ⟨_, rfl, _, rfl, _, _, rfl, rfl, ⟨p1, p2⟩, _, rfl, d, _, 0, _, rfl, rfl, .inl (.inl g1), rfl, _, rfl, c, _, _, j, rfl, rfl, g2, hj, ?_⟩⟩
      refine ⟨_, rfl, .inl ⟨_, rfl, _, rfl, _, _, rfl, rfl, p1, ?_⟩⟩
      refine q _ _ (Int.emod_nonneg _ (by omega)) (Int.emod_lt_of_pos _ p1) ⟨ne, L.set j ((0 : Int) / many), n + 1, ?_, ?_, ?_, ?_, Nat.succ_le_succ h5⟩ (sH.trans (hd_put (.inr rfl) _))
      · rw [upd_ne ne]; exact g1
      · rw [upd_same, List.map_set]
      · rw [List.length_set]; exact h3
      · intro x hx
        rcases List.mem_or_eq_of_mem_set hx with hx | hx
        · exact h4 x hx
        · rw [hx]; exact Int.ediv_nonneg hz (by omega)
    · have b1 : 0 ≤ (0 : Int) % 2147483563 := Int.emod_nonneg _ (by decide)
      have b2 : (0 : Int) % 2147483563 < 2147483563 := Int.emod_lt_of_pos _ (by decide)
      refine ⟨_, rfl, .inl ⟨_, rfl, _, _, rfl, rfl, by show (0 : Int) < 2147483563; decide, _, rfl, d, _, 1, _, rfl, rfl, .inl (.inl g1), rfl, _, _, rfl, rfl, .inl ⟨by decide, by decide⟩, _, _, rfl, rfl, _, _, rfl, rfl, ?_⟩⟩
      refine ⟨_, rfl, _, _, rfl, rfl, ⟨by decide, by decide, ?_⟩, .inl ⟨_, rfl, _, _, rfl, rfl, by show (0 : Int) < 2147483629; decide, .inl ⟨_, rfl, _, rfl, _, _, rfl, rfl, p1, ?_⟩⟩⟩
      · show ((0 : Int) % 2147483563 + 8117 * ((n + 1 : Nat) : Int) + 3).natAbs < 2 ^ 64
        omega
      · exact q _ _ (Int.emod_nonneg _ (by omega)) (Int.emod_lt_of_pos _ p1) D1 sH
end
section
variable {P : Program} {w : World} {K : PySem.W.Frag} {mg : Str → Option Value} {base : Heap}
theorem scOne : FnScope ["_law_deck_here", "_law_items"] ["_law_deck_here", "_law_items"] (defScope sOne) := ⟨rfl, rfl, rfl, by decide +kernel, rfl, by decide +kernel, by decide +kernel⟩
theorem ok_one {f fD : Addr} {fd fdD : FuncData} (F : Fun K "_law_one" "_law_one" sOne f fd) (T : TxC mg) (W : Dfn P w K mg base "_law_draw" 1 fD fdD ["_law_deck_here", "_law_many"] spDraw) :
    FnOk P w K mg base CX0 2 f fd ["_law_deck_here", "_law_items"] spOne := by
  refine F.ok scOne (fun vs H Q E h => ?_) (fun cdv A outer s H vs Q E hr h => ?_)
  · obtain ⟨d, c, a, xs, m, rfl, _⟩ := h
    rfl
  obtain ⟨d, c, a, xs, m, rfl, D, hm, ha, x0, x1, q⟩ := h
  refine ⟨_, pss_one (ps_ret (pe_ix ix_list (pv 1) (pe_call W.ok hr rfl W.m W.kp W.b .nil pass0 (pa_cons (pv 0) (pa_cons (pe_callB call_len_seq (by rfl) T.len PySem.boot_len (pa_cons (pv 1) pa_nil)) pa_nil))) (fun _ _ => rfl))), ?_⟩
  refine ⟨_, rfl, _, rfl, _, rfl, a, xs, rfl, .inl (.inl (.inl (hd_sub _ _ ha))), d, c, xs.length, m, rfl, D, hm, by omega, by omega, fun r G r0 r1 D2 s2 => ?_⟩
  obtain ⟨j, rfl⟩ : ∃ j : Nat, r = (j : Int) := ⟨r.toNat, by omega⟩
  have jl : j < xs.length := by omega
  obtain ⟨v, hv⟩ : ∃ v, xs[j]? = some v := ⟨_, List.getElem?_eq_getElem jl⟩
  exact ⟨a, xs, _, v, rfl, rfl, .inl (.inl (hd_sub _ _ (s2 _ _ ha))), atI_nat hv, q v G (List.mem_of_getElem? hv) D2 s2⟩
end
end K27
namespace K27
open PySem L2 GL KC GZ KW KR KX
abbrev sPiece : Stmt := top 4
abbrev sPair : Stmt := top 5
abbrev sErr : Stmt := top 6
abbrev sRule : Stmt := top 11
abbrev sLPiece : Stmt := top 12
abbrev sLErr : Stmt := top 13
abbrev sOdd : Stmt := top 14
abbrev sRight : Stmt := top 15
abbrev sLaw : Stmt := top 16
structure Txt (mg : Str → Option Value) : Prop where
  c : TxC mg
  isi : mg "isinstance" = none
  str : mg "str" = none
  all : mg "all" = none
  enum : mg "enumerate" = none
  list : mg "list" = none
  repr : mg "repr" = none
  mw : ∃ t, mg "MAX_WINDOW" = some (.int 3 t)
  mp : ∃ t, mg "MAX_PAIRS" = some (.int 6 t)
  lt : ∃ t, mg "LETTERS" = some (.str "abcd" t)
theorem pe_ixT {X : Cx} {a b : Expr} {ta tb : TE} {pos : Pos} (ha : PE X a ta) (hb : PE X b tb) (hs : PlainIx b) : PE X (.Subscript a b pos) (tOp (rIxT X.K) ta tb) := pe_ix ix_tup ha hb hs
def rJoinK (K : PySem.W.Frag) : V → List V → Hp → VK → Prop := fun x xs H Q => ∃ a p, ∃ ys : List Str, x = .str a ∧ xs = [.ref p] ∧ (SqL K H p (ys.map V.str) ∨ SqT K H p (ys.map V.str)) ∧ (ys.map (·.length)).sum + ys.length * a.length ≤ 16777216 ∧ Q (.str (Txt.join a ys)) H
theorem pe_joinK {X : Cx} {o e : Expr} {to te : TE} {apos pos : Pos} (ho : PE X o to) (he : PE X e te) (hs : starEach [e] X.env = [(false, eval e X.env)] := by rfl) (hbase : attributeBase o "join" X.env (eval o X.env) = eval o X.env := by rfl) (hline : (apos.endLine == pos.line) = true := by rfl) :
    PE X (.Call (.Attribute o "join" apos) [e] [] pos) (tM1 (rJoinK X.K) to te) := pe_join ho he hs hbase hline
section
variable {P : Program} {w : World} {K : PySem.W.Frag} {mg : Str → Option Value} {base : Heap}
theorem ok_oneT {f fD : Addr} {fd fdD : FuncData} (F : Fun K "_law_one" "_law_one" sOne f fd) (T : Txt mg) (W : Dfn P w K mg base "_law_draw" 1 fD fdD ["_law_deck_here", "_law_many"] spDraw) :
    FnOk P w K mg base CX0 2 f fd ["_law_deck_here", "_law_items"] spOneT := by
  refine F.ok scOne (fun vs H Q E h => ?_) (fun cdv A outer s H vs Q E hr h => ?_)
  · obtain ⟨d, c, z, m, rfl, _⟩ := h
    rfl
  obtain ⟨d, c, z, m, rfl, D, hm, x0, x1, q⟩ := h
  have zl : z.length ≤ 2 ^ 24 := by omega
  refine ⟨_, pss_one (ps_ret (pe_ix ix_str (pv 1) (pe_call W.ok hr rfl W.m W.kp W.b .nil pass0 (pa_cons (pv 0) (pa_cons (pe_callB call_len_str (by rfl) T.c.len PySem.boot_len (pa_cons (pv 1) pa_nil)) pa_nil))) (fun _ _ => rfl))), ?_⟩
  refine ⟨_, rfl, _, rfl, _, rfl, _, rfl, zl, d, c, (z.length : Int), m, rfl, D, hm, by omega, by omega, fun r G r0 r1 D2 s2 => ?_⟩
  obtain ⟨j, rfl⟩ : ∃ j : Nat, r = (j : Int) := ⟨r.toNat, by omega⟩
  have jl : j < z.cps.toList.length := by
    rw [Array.length_toList]
    show j < z.length
    omega
  obtain ⟨k, hk⟩ : ∃ k, z.cps.toList[j]? = some k := ⟨_, List.getElem?_eq_getElem jl⟩
  exact ⟨_, _, k, rfl, rfl, zl, atI_nat hk, q k G (List.mem_of_getElem? hk) D2 s2⟩
/-! ### a rule that is drawn -/
/-- the scope of the outer comprehension -/
def scW : Scope := match (defBody sRule).getD 1 sRule with
  | Stmt.For _ _ b _ _ => (match b.getD 1 sRule with | Stmt.Assign _ e _ => (match e with | Expr.ListComp _ _ sc _ => sc | _ => defScope sRule) | _ => defScope sRule)
  | _ => defScope sRule
abbrev NRu : List Str := ["_law_deck_here", "_law_letters", "_law_found", "_law_seen", "_law_k", "_law_size", "_law_one_here", "_law_other", "_law_j", "_law_way"]
theorem scRu : FnScope ["_law_deck_here", "_law_letters", "_law_found", "_law_seen", "_law_k", "_law_size", "_law_one_here", "_law_other", "_law_j", "_law_way"] ["_law_deck_here", "_law_letters"] (defScope sRule) := ⟨rfl, rfl, rfl, by decide +kernel, rfl, by decide +kernel, by decide +kernel⟩
/-- sep.join(xs), by its name -/
theorem ok_rule {f fD fO : Addr} {fd fdD fdO : FuncData} (F : Fun K "_law_rule" "_law_rule" sRule f fd) (T : Txt mg) (W : Dfn P w K mg base "_law_draw" 1 fD fdD ["_law_deck_here", "_law_many"] spDraw)
    (O : Dfn P w K mg base "_law_one" 2 fO fdO ["_law_deck_here", "_law_items"] spOneT) : FnOk P w K mg base CX0 3 f fd ["_law_deck_here", "_law_letters"] spRule := by
  refine F.ok scRu (fun vs H Q E h => ?_) (fun cdv A outer s H vs Q E hr h => ?_)
  · obtain ⟨d, c, l, m, rfl, _⟩ := h
    rfl
  obtain ⟨d, c, l, m, rfl, D, hm, l1, l4, q⟩ := h
  have hr1 : Room 1 _ := hr.mono (by decide)
  refine ⟨_, pss_cons (ps_par (i := 2) (j := 3) (by rfl) scRu.nd rfl rfl (by decide) rfl rfl (pa_cons (pe_lst pa_nil) (pa_cons (pe_lst pa_nil) pa_nil)) (by rfl))
    (pss_cons (ps_for PassesOwn.never rfl (pi_range1 rfl T.c.range (pa_cons (pe_call W.ok hr1 rfl W.m W.kp W.b .nil pass0 (pa_cons (pv 0) (pa_cons pe_int pa_nil))) pa_nil)) (pg_name (i := 4) scRu.nd rfl (Or.inl rfl))
      (pss_cons (ps_set (i := 5) scRu.nd rfl (Or.inr rfl) (pe_op op_add pe_int (pe_call W.ok hr1 rfl W.m W.kp W.b .nil pass0 (pa_cons (pv 0) (pa_cons pe_int pa_nil)))))
      (pss_cons (ps_asg (pe_lc (own := [("_law_way", 9)]) (g := gName 9) (tt := tYes) rfl scRu.nd (pi_range1 rfl T.c.range (pa_cons pe_int pa_nil))
          (blkOk_by (own := [("_law_way", 9)]) (N := NRu) (sc := defScope sRule) (by decide +kernel)) (fun _ _ _ _ _ => pg_name (i := 9) scRu.nd rfl (Or.inl rfl)) (fun _ _ _ _ _ => pts_nil)
          (fun _ _ _ _ _ => show PE _ _ (tM1 (rJoinK K) _ _) from pe_joinK pe_str (pe_lc (own := [("_law_j", 8)]) (g := gName 8) (tt := tYes) rfl scRu.nd (pi_range1 rfl T.c.range (pa_cons (pv 5) pa_nil))
            (blkOk_by (own := [("_law_j", 8)]) (N := NRu) (sc := relS scW (defScope sRule)) (by decide +kernel)) (fun _ _ _ _ _ => pg_name (i := 8) scRu.nd rfl (Or.inl rfl)) (fun _ _ _ _ _ => pts_nil)
            (fun _ _ _ _ _ => pe_call O.ok hr rfl O.m O.kp O.b .nil pass0 (pa_cons (pv 0) (pa_cons (pe_slice sl_str pe_str po_none (po_some (pv 1))) pa_nil))))))
        (pg_unl (by rfl) (pgs_cons (pg_name (i := 6) scRu.nd rfl (Or.inl rfl)) (pgs_cons (pg_name (i := 7) scRu.nd rfl (Or.inl rfl)) pgs_nil))))
      (pss_one (ps_if (PW.pt (pw_and (pt_cmpR op_lt (pe_callB call_len_seq (by rfl) T.c.len PySem.boot_len (pa_cons (pv 2) pa_nil)) pe_int (nomark _)) (pw_and (pt_cmpR op_ne (pv 6) (pv 7) (nomark _)) (pw_and (pt_cmpR op_notIn_seq (pv 6) (pv 3) (by rfl)) (pw_and1 (pt_cmpR op_notIn_seq (pv 7) (pv 3) (by rfl)))))))
        (pss_cons (ps_expr (pe_bm PySem.F.plainAttrs_list PySem.F.slot_list_append PySem.F.type_list_append mt_append (pv 2) (pa_cons (pe_tup (pa_cons (pv 6) (pa_cons (pv 7) pa_nil))) pa_nil)))
        (pss_one (ps_set (i := 3) scRu.nd rfl (Or.inl rfl) (pe_op op_cat (pv 3) (pe_lst (pa_cons (pv 6) (pa_cons (pv 7) pa_nil))))))) pss_nil)))))
    (pss_one (ps_ret (pe_callTy call_tuple_of (by rfl) T.c.tuple (by decide +kernel) (pa_cons (pv 2) pa_nil))))), ?_⟩
  refine ⟨by show 0 ≤ 2 ^ 24; decide, fun lf nlf => ⟨by show 0 ≤ 2 ^ 24; decide, fun ls nls => ⟨_, _, rfl, ?_⟩⟩⟩
  have D2 := (D.new nlf (.lst [])).new nls (.lst [])
  have ff := D.free nlf
  have fs := (D.new nlf (.lst [])).free nls
  have ne : ls ≠ lf := fun e => by rw [e, upd_same] at nls; cases nls
  have gf : Hd d c (upd (upd H lf (.lst [])) ls (.lst [])) lf = some (.lst []) := hd_of (by rw [upd_ne ne.symm]; exact upd_same) ff.1 ff.2
  have gs : Hd d c (upd (upd H lf (.lst [])) ls (.lst [])) ls = some (.lst []) := hd_of upd_same fs.1 fs.2
  have s0 : Same (Hd d c H) (Hd d c (upd (upd H lf (.lst [])) ls (.lst []))) := (hd_new nlf _).trans (hd_new nls _)
  have nHf : Hd d c H lf = none := hd_none nlf
  generalize upd (upd H lf (.lst [])) ls (.lst []) = H2 at D2 gf gs s0
  refine ⟨_, rfl, d, c, 10, _, rfl, D2, by omega, by decide, by decide, fun r G0 r0 r1 D0 sd0 => ?_⟩
  obtain ⟨n, rfl⟩ : ∃ n : Nat, r = (n : Int) := ⟨r.toNat, by omega⟩
  refine ⟨n, rfl, by omega, by omega, for_range (lo := 0) (n := n) (fun i σ G => ∃ (k4 k5 k6 k7 : Option V) (sd : Addr) (ts : List Addr) (rs : List Pr) (ss : List Str), σ = [some (.ref d), some (.int l), some (.ref lf), some (.ref sd), k4, k5, k6, k7, none, none] ∧
      Deck G d c (m + 1 + 7 * i) ∧ Same (Hd d c H) (Hd d c G) ∧ Hd d c G lf = some (.lst (ts.map V.ref)) ∧ ts.length = rs.length ∧ (∀ (i : Nat) (p : Pr), rs[i]? = some p → ∃ t : Addr, ts[i]? = some t ∧ Hd d c G t = some (.tup [.str (wS p.1), .str (wS p.2)])) ∧
      Hd d c G sd = some (.lst (ss.map V.str)) ∧ ss.length ≤ 2 * i ∧ Rul l rs ∧ sd ≠ lf)
    ⟨none, none, none, none, ls, [], [], [], rfl, D0, s0.trans sd0, sd0 _ _ gf, rfl, (fun i p h => by cases h), sd0 _ _ gs, Nat.zero_le _, ⟨Nat.zero_le _, fun p h => nomatch h⟩, ne⟩ ?_ ?_⟩
  · rintro i σ G hi ⟨k4, k5, k6, k7, sd, ts, rs, ss, rfl, DG, sG, g1, hl, h3, g2, sl, R, nsd⟩
    refine ⟨_, rfl, d, c, 3, _, rfl, DG, by omega, by decide, by decide, fun r G1 q0 q1 D1 s1 => ⟨_, _, rfl, rfl, ?_⟩⟩
    obtain ⟨sz, rfl⟩ : ∃ sz : Nat, r = (sz : Int) := ⟨r.toNat, by omega⟩
    refine ⟨2, rfl, by decide, by decide, fun L nL => lc_range (lo := 0) (n := 2) (fun j G' => Deck G' d c (m + 1 + 7 * i + 1 + 3 * j) ∧ Same (Hd d c G1) (Hd d c G') ∧ ∃ us : List (List Nat), G' L = some (.lst ((us.map wS).map V.str)) ∧ us.length = j ∧ ∀ u ∈ us, u.length = 1 + sz ∧ ∀ x ∈ u, x < l)
      ⟨D1.new nL _, hd_new nL _, [], upd_same, rfl, fun u h => nomatch h⟩ ?_ ?_⟩
    · rintro j G2 hj ⟨D2', s2, us, u1, u2, u3⟩
      have fL := D1.free nL
      refine ⟨rfl, ⟨_, rfl⟩, _, rfl, (1 + sz : Nat), rfl, by omega, by omega, fun L2 nL2 => lc_range (lo := 0) (n := 1 + sz) (fun q G' => Deck G' d c (m + 1 + 7 * i + 1 + 3 * j + q) ∧ Same (Hd d c G2) (Hd d c G') ∧ ∃ v : List Nat, G' L2 = some (.lst ((v.map fun k => (⟨#[k]⟩ : Str)).map V.str)) ∧ v.length = q ∧ ∀ k ∈ v, k ∈ (wS (List.range l)).cps.toList)
        ⟨D2'.new nL2 _, hd_new nL2 _, [], upd_same, rfl, fun u h => nomatch h⟩ ?_ ?_⟩
      · rintro q' G3 hq ⟨D3, s3, v, v1, v2, v3⟩
        have fL2 := D2'.free nL2
        refine ⟨rfl, _, rfl, _, rfl, l, rfl, _, rfl, by decide, d, c, wS (List.range l), _, ?_, D3, by omega, by rw [wS_len, List.length_range]; omega, by rw [wS_len, List.length_range]; omega, fun k G4 hk D4 s4 => ?_⟩
        · show [V.ref d, V.str (cutS ("abcd" : Str) none (some (l : Int)))] = _
          rw [cut_abcd l l1 l4]
        refine ⟨_, hd_sub _ _ (s4 _ _ (hd_of v1 fL2.1 fL2.2)), ?_, D4.put fL2.1 fL2.2 _, hd_grow (hd_none nL2) (s3.trans s4) _, v ++ [k], ?_, by rw [List.length_append, v2]; rfl, ?_⟩
        · rw [List.length_map, List.length_map, v2]
          show q' < 2 ^ 24
          omega
        · rw [upd_same, List.map_append, List.map_append]; rfl
        · intro x hx
          rcases List.mem_append.mp hx with hx | hx
          · exact v3 x hx
          · rw [List.mem_singleton.mp hx]; exact hk
      · rintro G3 ⟨D3, s3, v, v1, v2, v3⟩
        obtain ⟨w', rfl, hw⟩ := ws_of l v v3
        refine ⟨_, L2, _, rfl, rfl, .inl (.inl (.inl v1)), ?_, ?_⟩
        · rw [len_c]
          simp only [List.length_map] at v2 ⊢
          show w'.length + w'.length * 0 ≤ 16777216
          omega
        rw [join_c]
        refine ⟨_, hd_sub _ _ (s3 _ _ (hd_of u1 fL.1 fL.2)), ?_, (D3.mono (by omega)).put fL.1 fL.2 _, hd_grow (hd_none nL) (s2.trans s3) _, us ++ [w'], ?_, by rw [List.length_append, u2]; rfl, ?_⟩
        · rw [List.length_map, List.length_map, u2]
          show j < 2 ^ 24
          omega
        · rw [upd_same, List.map_append, List.map_append]; rfl
        · intro u hu
          rcases List.mem_append.mp hu with hu | hu
          · exact u3 u hu
          · rw [List.mem_singleton.mp hu]
            rw [List.length_map] at v2
            exact ⟨v2, hw⟩
    · rintro G2 ⟨D2', s2, us, u1, u2, u3⟩
      obtain ⟨a, b, rfl⟩ : ∃ a b, us = [a, b] := by
        match us, u2 with
        | [a, b], _ => exact ⟨a, b, rfl⟩
      obtain ⟨a1, a2⟩ := u3 a (by simp)
      obtain ⟨b1, b2⟩ := u3 b (by simp)
      have sH := s1.trans s2
      have g1' := sH _ _ g1
      have g2' := sH _ _ g2
      have f1 := hd_some g1'
      refine ⟨L, _, rfl, .inl (.inl u1), rfl, _, _, rfl, _, _, rfl, rfl, ?_⟩
      have stay : ∃ (k4 k5 k6 k7 : Option V) (sd' : Addr) (ts' : List Addr) (rs' : List Pr) (ss' : List Str), [some (V.ref d), some (V.int l), some (V.ref lf), some (V.ref sd), some (V.int (0 + i)), some (V.int (1 + sz)), some (V.str (wS a)), some (V.str (wS b)), none, none] = [some (.ref d), some (.int l), some (.ref lf), some (.ref sd'), k4, k5, k6, k7, none, none] ∧
          Deck G2 d c (m + 1 + 7 * (i + 1)) ∧ Same (Hd d c H) (Hd d c G2) ∧ Hd d c G2 lf = some (.lst (ts'.map V.ref)) ∧ ts'.length = rs'.length ∧ (∀ (i : Nat) (p : Pr), rs'[i]? = some p → ∃ t : Addr, ts'[i]? = some t ∧ Hd d c G2 t = some (.tup [.str (wS p.1), .str (wS p.2)])) ∧
          Hd d c G2 sd' = some (.lst (ss'.map V.str)) ∧ ss'.length ≤ 2 * (i + 1) ∧ Rul l rs' ∧ sd' ≠ lf :=
        ⟨_, _, _, _, sd, ts, rs, ss, rfl, D2'.mono (by omega), sG.trans sH, g1', hl, (fun i p e => let ⟨t, x, y⟩ := h3 i p e; ⟨t, x, sH _ _ y⟩), g2', by omega, R, nsd⟩
      have flat : (ss.map V.str).all flatV = true := by rw [List.all_eq_true]; intro x hx; obtain ⟨y, _, rfl⟩ := List.mem_map.mp hx; rfl
      refine ⟨_, rfl, lf, _, rfl, .inl (.inl (.inl f1.1)), _, _, rfl, rfl, _, rfl, ite2 (fun c1 => ?_) (fun c1 => iteF stay)⟩
      refine ⟨_, rfl, _, rfl, rfl, _, rfl, ite2 (fun c2 => ?_) (fun c2 => iteF stay)⟩
      refine ⟨_, rfl, _, rfl, sd, _, rfl, .inl (.inl (.inl (hd_sub _ _ g2'))), rfl, flat, _, rfl, ite2 (fun c3 => ?_) (fun c3 => iteF stay)⟩
      refine ⟨_, rfl, _, rfl, sd, _, rfl, .inl (.inl (.inl (hd_sub _ _ g2'))), rfl, flat, _, rfl, ite2 (fun c4 => ?_) (fun c4 => stay)⟩
      have t6 : ts.length < 6 := by
        have := of_decide_eq_true c1
        rw [List.length_map] at this
        omega
      have ab : a ≠ b := fun e => by
        rw [e] at c2
        simp at c2
      refine ⟨_, rfl, .inl ⟨rfl, _, .inl (.inl f1.1)⟩, _, rfl, _, rfl, by show 2 ≤ 2 ^ 24; decide, fun t nt => ?_⟩
      have D3 := D2'.new nt (.tup [V.str (wS a), V.str (wS b)])
      have s3 : Same (Hd d c G2) (Hd d c (upd G2 t (.tup [V.str (wS a), V.str (wS b)]))) := hd_new nt _
      have ft := D2'.free nt
      have gt : Hd d c (upd G2 t (.tup [V.str (wS a), V.str (wS b)])) t = some (.tup [V.str (wS a), V.str (wS b)]) := hd_of upd_same ft.1 ft.2
      have tf : t ≠ lf := fun e => by rw [e, f1.1] at nt; cases nt
      generalize upd G2 t (.tup [V.str (wS a), V.str (wS b)]) = G3 at D3 s3 gt
      have g1'' := s3 _ _ g1'
      have g2'' := s3 _ _ g2'
      refine ⟨lf, _, _, rfl, rfl, (hd_some g1'').1, by rw [List.length_map]; show _ < 2 ^ 24; omega, ?_⟩
      have e1 : ts.map V.ref ++ [V.ref t] = (ts ++ [t]).map V.ref := by rw [List.map_append]; rfl
      rw [e1]
      have D4 := D3.put f1.2.1 f1.2.2 (.lst ((ts ++ [t]).map V.ref))
      have s4 : Same (Hd d c H) (Hd d c (upd G3 lf (.lst ((ts ++ [t]).map V.ref)))) := hd_grow nHf (sG.trans (sH.trans s3)) _
      have g4 : Hd d c (upd G3 lf (.lst ((ts ++ [t]).map V.ref))) lf = some (.lst ((ts ++ [t]).map V.ref)) := hd_of upd_same f1.2.1 f1.2.2
      have keep : ∀ (x : Addr) (o : HO), x ≠ lf → Hd d c G3 x = some o → Hd d c (upd G3 lf (.lst ((ts ++ [t]).map V.ref))) x = some o := fun x o nx hx => by
        obtain ⟨y1, y2, y3⟩ := hd_some hx
        exact hd_of (by rw [upd_ne nx]; exact y1) y2 y3
      have h4 : ∀ (i : Nat) (p : Pr), (rs ++ [(a, b)])[i]? = some p → ∃ t' : Addr, (ts ++ [t])[i]? = some t' ∧ Hd d c (upd G3 lf (.lst ((ts ++ [t]).map V.ref))) t' = some (.tup [.str (wS p.1), .str (wS p.2)]) := by
        intro k p hk
        by_cases hlt : k < rs.length
        · rw [List.getElem?_append_left hlt] at hk
          obtain ⟨t', x, y⟩ := h3 k p hk
          have y' := s3 _ _ (sH _ _ y)
          exact ⟨t', by rw [List.getElem?_append_left (by omega)]; exact x, keep _ _ (ne_of y' g1'' fun z => nomatch z) y'⟩
        · rw [List.getElem?_append_right (by omega)] at hk
          have e : k - rs.length = 0 := by
            rcases Nat.eq_zero_or_pos (k - rs.length) with h | h
            · exact h
            · rw [List.getElem?_eq_none (by show 1 ≤ _; omega)] at hk; cases hk
          rw [e] at hk
          cases hk
          refine ⟨t, ?_, keep _ _ tf gt⟩
          rw [List.getElem?_append_right (by omega), hl, e]
          rfl
      have g5 := keep _ _ nsd g2''
      generalize upd G3 lf (.lst ((ts ++ [t]).map V.ref)) = G4 at D4 s4 g4 h4 g5
      refine ⟨_, rfl, _, rfl, _, rfl, by show 2 ≤ 2 ^ 24; decide, fun e nE => ?_⟩
      have tE := same_new nE (.lst [V.str (wS a), V.str (wS b)])
      refine ⟨sd, e, ss.map V.str, [V.str (wS a), V.str (wS b)], rfl, rfl, tE _ _ (hd_sub _ _ g5), upd_same, by rw [List.length_map]; show _ + 2 ≤ 2 ^ 24; omega, fun s2' ns2 => ?_⟩
      have e2 : ss.map V.str ++ [V.str (wS a), V.str (wS b)] = (ss ++ [wS a, wS b]).map V.str := by rw [List.map_append]; rfl
      rw [e2]
      have sN : Same G4 (upd (upd G4 e (.lst [V.str (wS a), V.str (wS b)])) s2' (.lst ((ss ++ [wS a, wS b]).map V.str))) := tE.trans (same_new ns2 _)
      have sN' := hd_same (d := d) (c := c) sN
      have fs2 := (D4.same tE).free ns2
      refine ⟨_, _, _, _, s2', ts ++ [t], rs ++ [(a, b)], ss ++ [wS a, wS b], rfl, (D4.same sN).mono (by omega), s4.trans sN', sN' _ _ g4, by rw [List.length_append, List.length_append, hl]; rfl, (fun i p hp => let ⟨t', x, y⟩ := h4 i p hp; ⟨t', x, sN' _ _ y⟩), hd_of upd_same fs2.1 fs2.2, by rw [List.length_append]; show _ + 2 ≤ _; omega, ⟨by rw [List.length_append, ← hl]; show _ + 1 ≤ 6; omega, fun p hp => ?_⟩, fun z => ?_⟩
      · rcases List.mem_append.mp hp with hp | hp
        · exact R.ok p hp
        · rw [List.mem_singleton.mp hp]
          exact ⟨by show 1 ≤ a.length; omega, by show a.length ≤ 3; omega, by show b.length = a.length; omega, ab, a2, b2⟩
      · rw [z] at ns2
        have := tE _ _ (hd_sub _ _ g4)
        rw [this] at ns2
        cases ns2
  · rintro σ G ⟨k4, k5, k6, k7, sd, ts, rs, ss, rfl, DG, sG, g1, hl, h3, g2, sl, R, nsd⟩
    refine ⟨_, rfl, lf, _, rfl, .inl ⟨.inl (.inl (hd_sub _ _ g1)), fun p np => ?_⟩⟩
    have fp := DG.free np
    have sp := hd_new (d := d) (c := c) np (.tup (ts.map V.ref))
    exact q p rs _ R ⟨ts, hd_of upd_same fp.1 fp.2, hl, fun i x hx => let ⟨t, y, z⟩ := h3 i x hx; ⟨t, y, sp _ _ z⟩⟩ ((DG.new np _).mono (by omega)) (sG.trans sp)
end
end K27
namespace K27
open PySem L2 GL KC GZ KW KR KX
section
variable {P : Program} {w : World} {K : PySem.W.Frag} {mg : Str → Option Value} {base : Heap}
theorem wkE {K : PySem.W.Frag} {k1 : Kd} {v1 : V} {xs : List V} : Walk (ItE K k1 v1 xs) xs.length (fun H => Src K H k1 v1 xs) (fun i H v H' => ∃ T r, v = .ref T ∧ H T = none ∧ H' = upd H T (.tup r) ∧ rowE xs i = some r) := walk_N
theorem piece_is {l : Nat} {x : Str} : (pieceD l (.str x)).isSome = okP l x := by
  show (if okP l x = true then some x else none).isSome = okP l x
  cases okP l x <;> rfl
theorem cps_take {x : Str} {i c : Nat} (h : x.cps[i]? = some c) : x.cps.toList.take (i + 1) = x.cps.toList.take i ++ [c] := by
  rw [List.take_add_one, Array.getElem?_toList, h]; rfl
theorem scP : FnScope ["letters", "value", "letter"] ["letters", "value"] (defScope sPiece) := ⟨rfl, rfl, rfl, by decide +kernel, rfl, by decide +kernel, by decide +kernel⟩
theorem ok_piece {f : Addr} {fd : FuncData} (F : Fun K "is_piece" "is_piece" sPiece f fd) (T : Txt mg) : FnOk P w K mg base CX0 1 f fd ["letters", "value"] (spPiece K) := by
  refine F.ok scP (fun vs H Q E h => ?_) (fun cdv A outer s H vs Q E hr h => ?_)
  · obtain ⟨l, v, d, rfl, _⟩ := h
    rfl
  obtain ⟨l, v, d, rfl, hd, hw, l1, l4, q⟩ := h
  obtain ⟨tk, mw⟩ := T.mw
  obtain ⟨tk2, lt⟩ := T.lt
  refine ⟨_, pss_cons (ps_if (PW.pt (pw_or (pt_not (pt_val (pe_callB call_isi (by rfl) T.isi (by decide +kernel) (pa_cons (pv 1) (pa_cons (pe_bltn (v := .ty "str") (by rfl) T.str (by decide +kernel) rfl) pa_nil)))))
      (pw_or1 (pt_not (pt_chain op_le op_le pe_int (pe_callB call_len_str (by rfl) T.c.len PySem.boot_len (pa_cons (pv 1) pa_nil)) (pe_glob (v := .int 3) rfl mw ⟨_, rfl⟩)))))) (pss_one (ps_ret pe_bl)) pss_nil)
    (pss_one (ps_ret (pe_callB (cr_all rfl) (by rfl) T.all (by decide +kernel) (pa_cons (pe_lc (own := [("letter", 2)]) (g := gName 2) (tt := tYes) rfl scP.nd (pi_str (pv 1))
      (blkOk_by (own := [("letter", 2)]) (N := ["letters", "value", "letter"]) (sc := defScope sPiece) (by decide +kernel)) (fun _ _ _ _ _ => pg_name (i := 2) scP.nd rfl (Or.inl rfl)) (fun _ _ _ _ _ => pts_nil)
      (fun _ _ _ _ _ => pe_cmpR op_inS (pv 2) (pe_slice sl_str (pe_glob (v := .str "abcd") rfl lt ⟨_, rfl⟩) po_none (po_some (pv 0))) (by rfl))) pa_nil)))), ?_⟩
  obtain ⟨ti, i1, i2⟩ := is_str hd
  refine ⟨_, rfl, _, _, ti, _, _, rfl, .ty _, i1, i2, _, rfl, ?_⟩
  cases hd with
  | str x =>
    have xl := hw.str
    have key : ∀ G, Same H G → Q (.bl (okP l x)) G := fun G s => by
      have k := q G s
      rw [piece_is] at k
      exact k
    refine iteF ⟨_, rfl, _, rfl, by show x.length ≤ 2 ^ 24; omega, _, _, rfl, rfl, _, rfl, ite2 (fun c => ?_) (fun c => ?_)⟩
    · have c1 : 1 ≤ x.length := by have := of_decide_eq_true c; omega
      refine ⟨_, _, rfl, rfl, _, rfl, ite2 (fun c2 => ?_) (fun c2 => ?_)⟩
      · have c3 : ¬ x.length ≤ 3 := by
          intro z
          have z' : ((x.length : Nat) : Int) ≤ 3 := by omega
          rw [decide_eq_true z'] at c2
          cases c2
        have k2 := key H (Same.refl H)
        unfold okP at k2
        rw [decide_eq_false c3, Bool.and_false, Bool.false_and] at k2
        exact k2
      · have c3 : x.length ≤ 3 := by
          refine Classical.byContradiction fun z => c2 ?_
          have z' : ¬ ((x.length : Nat) : Int) ≤ 3 := by omega
          rw [decide_eq_false z']
          rfl
        refine ⟨_, rfl, _, rfl, fun L nL => lc_it (walk_str (z := x)) (fun i G => Same H G ∧ G L = some (.lst ((x.cps.toList.take i).map fun c => V.bl (inA l c))))
          ⟨same_new nL _, by rw [upd_same]; rfl⟩ (fun _ _ _ _ => True.intro) ?_ ?_⟩
        · rintro i y G G' hi ⟨s1, g1⟩ ⟨rfl, c, hc, rfl⟩
          refine ⟨rfl, _, rfl, _, rfl, l, rfl, _, rfl, by decide, c, _, rfl, rfl, _, g1, ?_, same_grow nL s1 _, ?_⟩
          · rw [List.length_map, List.length_take]
            show min i _ < 2 ^ 24
            have : x.cps.size = x.length := rfl
            omega
          · rw [upd_same, cps_take hc, List.map_append, cut_abcd l l1 l4]
            rfl
        · rintro G ⟨s1, g1⟩
          have e1 : x.cps.toList.take x.cps.size = x.cps.toList := by rw [← Array.length_toList, List.take_length]
          rw [e1] at g1
          have g2 : G L = some (.lst ((x.cps.toList.map (inA l)).map V.bl)) := by rw [g1, List.map_map]; rfl
          refine ⟨_, _, rfl, .inl (.inl g2), ?_⟩
          have k2 := key G s1
          unfold okP at k2
          rw [decide_eq_true c1, decide_eq_true c3, Bool.true_and, Bool.true_and] at k2
          have e2 : (x.cps.toList.map (inA l)).all id = x.cps.toList.all (inA l) := by rw [List.all_map]; rfl
          rw [e2]
          exact k2
    · have c3 : ¬ 1 ≤ x.length := by
        intro z
        exact c (decide_eq_true (by omega))
      have k2 := key H (Same.refl H)
      unfold okP at k2
      rw [decide_eq_false c3, Bool.false_and, Bool.false_and] at k2
      exact ⟨_, rfl, k2⟩
  | int i => exact iteT (q H (Same.refl H))
  | bl b => exact iteT (q H (Same.refl H))
  | non => exact iteT (q H (Same.refl H))
  | tup _ _ => exact iteT (q H (Same.refl H))
  | lst _ _ => exact iteT (q H (Same.refl H))
  | dic _ => exact iteT (q H (Same.refl H))
theorem scPr : FnScope ["letters", "value", "one", "other"] ["letters", "value"] (defScope sPair) := ⟨rfl, rfl, rfl, by decide +kernel, rfl, by decide +kernel, by decide +kernel⟩
theorem ok_pair {f fP : Addr} {fd fdP : FuncData} (F : Fun K "is_pair" "is_pair" sPair f fd) (T : Txt mg) (D : Dfn P w K mg base "is_piece" 1 fP fdP ["letters", "value"] (spPiece K)) :
    FnOk P w K mg base CX0 2 f fd ["letters", "value"] (spPair K) := by
  refine F.ok scPr (fun vs H Q E h => ?_) (fun cdv A outer s H vs Q E hr h => ?_)
  · obtain ⟨l, v, d, rfl, _⟩ := h
    rfl
  obtain ⟨l, v, d, rfl, hd, hw, l1, l4, q⟩ := h
  refine ⟨_, pss_cons (ps_if (PW.pt (pw_or (pt_not (pt_val (pe_callB call_isi (by rfl) T.isi (by decide +kernel) (pa_cons (pv 1) (pa_cons (pe_bltn (v := .ty "tuple") (by rfl) T.c.tuple (by decide +kernel) rfl) pa_nil)))))
      (pw_or1 (pt_cmpR op_ne (pe_callB call_len_seq (by rfl) T.c.len PySem.boot_len (pa_cons (pv 1) pa_nil)) pe_int (nomark _))))) (pss_one (ps_ret pe_bl)) pss_nil)
    (pss_cons (ps_asg (pv 1) (pg_tup (by rfl) (pgs_cons (pg_name (i := 2) scPr.nd rfl (Or.inl rfl)) (pgs_cons (pg_name (i := 3) scPr.nd rfl (Or.inl rfl)) pgs_nil))))
    (pss_cons (ps_if (PW.pt (pw_or (pt_not (pt_val (pe_call D.ok hr rfl D.m D.kp D.b .nil pass0 (pa_cons (pv 0) (pa_cons (pv 2) pa_nil)))))
      (pw_or1 (pt_not (pt_val (pe_call D.ok hr rfl D.m D.kp D.b .nil pass0 (pa_cons (pv 0) (pa_cons (pv 3) pa_nil)))))))) (pss_one (ps_ret pe_bl)) pss_nil)
    (pss_one (ps_ret (pe_and (pe_cmpR op_eq (pe_callB call_len_str (by rfl) T.c.len PySem.boot_len (pa_cons (pv 2) pa_nil)) (pe_callB call_len_str (by rfl) T.c.len PySem.boot_len (pa_cons (pv 3) pa_nil)) (nomark _))
      (pe_one (pe_cmpR op_ne (pv 2) (pv 3) (nomark _)))))))), ?_⟩
  obtain ⟨ti, i1, i2⟩ := is_tuple hd
  refine ⟨_, rfl, _, _, ti, _, _, rfl, .ty _, i1, i2, _, rfl, ?_⟩
  cases hd with
  | @tup a vs ds ha hda =>
    have hl : vs.length = ds.length := hda.length
    refine iteF ⟨_, rfl, _, _, rfl, .inr (.inl (.inl ha)), rfl, _, rfl, ite2 (fun c => ?_) (fun c => ?_)⟩
    · have c' : ds.length ≠ 2 := by
        intro z
        rw [hl, z] at c
        exact absurd c (by decide)
      have k2 := q H (Same.refl H)
      rw [pair_no c'] at k2
      exact k2
    · have c' : ds.length = 2 := by
        refine Classical.byContradiction fun z => c ?_
        have z' : ¬ (V.int ((vs.length : Nat) : Int) = V.int 2) := fun y => z (by have := V.int.inj y; omega)
        rw [decide_eq_false z']
        rfl
      match ds, vs, c', hda, ha, hw, q with
      | [x, y], _, _, .cons (v := vx) h1 (.cons (v := vy) h2 .nil), ha, hw, q =>
        have wx : Small x := hw.mem (by simp)
        have wy : Small y := hw.mem (by simp)
        refine ⟨_, rfl, a, _, rfl, .inl (.inl ha), rfl, _, _, rfl, _, _, rfl, rfl, ?_⟩
        have e0 : pairD l (.tuple [x, y]) = match pieceD l x, pieceD l y with | some x, some y => if x.length = y.length ∧ x ≠ y then some (x, y) else none | _, _ => none := rfl
        rw [e0] at q
        refine ⟨_, rfl, _, rfl, l, vx, x, rfl, h1, wx, l1, l4, fun G1 s1 => ⟨_, rfl, ?_⟩⟩
        cases c1 : pieceD l x with
        | none =>
          rw [c1] at q
          exact iteT (q G1 s1)
        | some x' =>
          obtain ⟨rfl, o1⟩ := piece_str c1
          rw [c1] at q
          cases h1
          refine iteF ⟨_, rfl, _, rfl, l, vy, y, rfl, h2.same s1, wy, l1, l4, fun G2 s2 => ⟨_, rfl, ?_⟩⟩
          cases c2 : pieceD l y with
          | none =>
            rw [c2] at q
            exact iteT (q G2 (s1.trans s2))
          | some y' =>
            obtain ⟨rfl, o2⟩ := piece_str c2
            rw [c2] at q
            cases h2
            have k2 := q G2 (s1.trans s2)
            have xl := wx.str
            have yl := wy.str
            have k3 : Q (.bl (if x'.length = y'.length ∧ x' ≠ y' then some (x', y') else none).isSome) G2 := k2
            refine iteF ⟨_, rfl, x', rfl, by show x'.length ≤ 2 ^ 24; omega, _, rfl, y', rfl, by show y'.length ≤ 2 ^ 24; omega, rfl, _, rfl, ite2 (fun c3 => ?_) (fun c3 => ?_)⟩
            · have c4 : x'.length = y'.length := by
                have := V.int.inj (of_decide_eq_true c3)
                omega
              refine ⟨_, rfl, _, rfl, rfl, ?_⟩
              by_cases c5 : x' = y'
              · rw [if_neg (fun z => z.2 c5)] at k3
                have e : (!decide (V.str x' = V.str y')) = false := by rw [c5]; simp
                rw [e]
                exact k3
              · rw [if_pos ⟨c4, c5⟩] at k3
                have e : (!decide (V.str x' = V.str y')) = true := by simp [c5]
                rw [e]
                exact k3
            · have c4 : x'.length ≠ y'.length := fun z => c3 (decide_eq_true (by rw [z]))
              rw [if_neg (fun z => c4 z.1)] at k3
              exact k3
  | int i => exact iteT (q H (Same.refl H))
  | bl b => exact iteT (q H (Same.refl H))
  | non => exact iteT (q H (Same.refl H))
  | str x => exact iteT (q H (Same.refl H))
  | lst _ _ => exact iteT (q H (Same.refl H))
  | dic _ => exact iteT (q H (Same.refl H))
theorem scEr : FnScope ["letters", "value", "taken", "index", "item"] ["letters", "value"] (defScope sErr) := ⟨rfl, rfl, rfl, by decide +kernel, rfl, by decide +kernel, by decide +kernel⟩
theorem ok_err {f fP : Addr} {fd fdP : FuncData} (F : Fun K "rule_error" "rule_error" sErr f fd) (T : Txt mg) (D : Dfn P w K mg base "is_pair" 2 fP fdP ["letters", "value"] (spPair K)) :
    FnOk P w K mg base CX0 3 f fd ["letters", "value"] (spRErr K) := by
  refine F.ok scEr (fun vs H Q E h => ?_) (fun cdv A outer s H vs Q E hr h => ?_)
  · obtain ⟨l, v, d, rfl, _⟩ := h
    rfl
  obtain ⟨l, v, d, rfl, hd, hw, l1, l4, q⟩ := h
  obtain ⟨tk, mp⟩ := T.mp
  refine ⟨_, pss_cons (ps_if (pt_not (pt_val (pe_callB call_isi (by rfl) T.isi (by decide +kernel) (pa_cons (pv 1) (pa_cons (pe_bltn (v := .ty "tuple") (by rfl) T.c.tuple (by decide +kernel) rfl) pa_nil))))) (pss_one (ps_ret (pe_tup (pa_cons pe_non (pa_cons pe_str pa_nil))))) pss_nil)
    (pss_cons (ps_set (i := 2) scEr.nd rfl (Or.inl rfl) (pe_lst pa_nil))
    (pss_cons (ps_for PassesOwn.never rfl (pi_e rfl T.enum (pa_cons (pv 1) pa_nil)) (pg_tup (by rfl) (pgs_cons (pg_name (i := 3) scEr.nd rfl (Or.inl rfl)) (pgs_cons (pg_name (i := 4) scEr.nd rfl (Or.inl rfl)) pgs_nil)))
      (pss_cons (ps_if (PW.pt (pw_or (pt_not (pt_val (pe_call D.ok hr rfl D.m D.kp D.b .nil pass0 (pa_cons (pv 0) (pa_cons (pv 4) pa_nil)))))
          (pw_or (pt_cmpR op_in_seq (pe_ix ix_tup (pv 4) pe_int (fun _ _ => rfl)) (pv 2) (by rfl)) (pw_or1 (pt_cmpR op_in_seq (pe_ix ix_tup (pv 4) pe_int (fun _ _ => rfl)) (pv 2) (by rfl))))))
        (pss_one (ps_ret (pe_tup (pa_cons (pv 3) (pa_cons pe_str pa_nil))))) pss_nil)
      (pss_one (ps_expr (pe_bm PySem.F.plainAttrs_list PySem.F.slot_list_extend PySem.F.type_list_extend mt_extendT (pv 2) (pa_cons (pv 4) pa_nil))))))
    (pss_cons (ps_if (pt_cmpR op_gt (pe_callB call_len_seq (by rfl) T.c.len PySem.boot_len (pa_cons (pv 1) pa_nil)) (pe_glob (v := .int 6) rfl mp ⟨_, rfl⟩) (nomark _)) (pss_one (ps_ret (pe_tup (pa_cons pe_non (pa_cons pe_str pa_nil))))) pss_nil)
    (pss_one (ps_ret pe_non))))), ?_⟩
  obtain ⟨ti, i1, i2⟩ := is_tuple hd
  refine ⟨_, rfl, _, _, ti, _, _, rfl, .ty _, i1, i2, _, rfl, ?_⟩
  have no : (∀ ds, d ≠ .tuple ds) → ∀ t, H t = none → Q (.ref t) (upd H t (.tup [.non, .str "rule"])) := fun hn t nt => by
    have e : errD l d = .tuple [.none, .str "rule"] := by
      cases d with
      | tuple ds => exact absurd rfl (hn ds)
      | _ => rfl
    exact q _ _ (same_new nt _) (by rw [e]; exact .tup upd_same (.cons .non (.cons (.str _) .nil)))
  cases hd with
  | @tup a vs ds ha hda =>
    have hl : vs.length = ds.length := hda.length
    have dl := hw.len
    refine iteF ⟨by show 0 ≤ 2 ^ 24; decide, fun lf nlf => ?_⟩
    have s0 := same_new nlf (.lst [])
    have g0 : upd H lf (.lst []) lf = some (.lst (([] : List Str).map V.str)) := upd_same
    generalize upd H lf (.lst []) = H1 at s0 g0
    refine ⟨_, rfl, .ref a, .tup, vs, rfl, ⟨a, rfl, .inl (.inl (s0 _ _ ha))⟩, for_it wkE (fun i σ G => ∃ (k3 k4 : Option V) (tk : List Str), σ = [some (.int l), some (.ref a), some (.ref lf), k3, k4] ∧ Same H G ∧ G lf = some (.lst (tk.map V.str)) ∧ tk.length ≤ 2 * i ∧
        KX.walkE l 0 [] ds = KX.walkE l i tk (ds.drop i)) ⟨none, none, [], rfl, s0, g0, Nat.zero_le _, rfl⟩ (fun i σ G _ h => let ⟨_, _, _, _, s, _⟩ := h; ⟨a, rfl, .inl (.inl (s _ _ ha))⟩) ?_ ?_⟩
    · rintro i x σ G G' hi ⟨k3, k4, tk, rfl, sG, gl, tl, we⟩ ⟨Tt, r, rfl, nT, rfl, hr'⟩
      obtain ⟨x, e1, rfl⟩ := rowE_of hr'
      obtain ⟨d1, hd1, hD1⟩ := hda.get e1
      have dr : ds.drop i = d1 :: ds.drop (i + 1) := by
        have il : i < ds.length := by omega
        rw [List.drop_eq_getElem_cons il]
        rw [List.getElem?_eq_getElem il] at hd1
        cases hd1
        rfl
      have sT := same_new nT (.tup [V.int (i : Nat), x])
      have gT : upd G Tt (.tup [V.int (i : Nat), x]) Tt = some (.tup [V.int (i : Nat), x]) := upd_same
      generalize upd G Tt (.tup [V.int (i : Nat), x]) = G1 at sT gT
      have sG1 := sG.trans sT
      refine ⟨Tt, _, rfl, .inl (.inl gT), rfl, _, _, rfl, _, _, rfl, rfl, ?_⟩
      have wd1 : Small d1 := hw.mem (List.mem_of_getElem? hd1)
      have out : KX.walkE l 0 [] ds = some i → ∀ G2, Same H G2 → ∀ t, G2 t = none → Q (.ref t) (upd G2 t (.tup [.int (i : Nat), .str "pair"])) := fun h G2 s2 t nt => by
        have e : errD l (.tuple ds) = .tuple [.int (i : Nat), .str "pair"] := by
          unfold errD
          simp only [h]
        exact q _ _ (s2.trans (same_new nt _)) (by rw [e]; exact .tup upd_same (.cons (.int _) (.cons (.str _) .nil)))
      refine ⟨_, rfl, _, rfl, l, x, d1, rfl, hD1.same sG1, wd1, l1, l4, fun G2 s2 => ⟨_, rfl, ?_⟩⟩
      have sG2 := sG1.trans s2
      have gl2 := s2 _ _ (sT _ _ gl)
      rw [dr] at we
      cases c1 : pairD l d1 with
      | none =>
        have w1 : KX.walkE l 0 [] ds = some i := by
          rw [we]; unfold KX.walkE; rw [c1]
        exact iteT ⟨_, rfl, by show 2 ≤ 2 ^ 24; decide, fun t nt => out w1 G2 sG2 t nt⟩
      | some ab =>
        obtain ⟨a1, b1⟩ := ab
        obtain ⟨rfl, p1, p2, p3, p4⟩ := pair_two c1
        have w1 : KX.walkE l 0 [] ds = if a1 ∈ tk ∨ b1 ∈ tk then some i else KX.walkE l (i + 1) (tk ++ [a1, b1]) (ds.drop (i + 1)) := by
          rw [we]
          show (match pairD l (.tuple [.str a1, .str b1]) with | none => some i | some (x, y) => if x ∈ tk ∨ y ∈ tk then some i else KX.walkE l (i + 1) (tk ++ [x, y]) (ds.drop (i + 1))) = _
          rw [c1]
        cases hD1 with
        | @tup t us _ ht hu =>
        cases hu with
        | cons u1 u2 =>
        cases u2 with
        | cons u2 u3 =>
        cases u3
        cases u1
        cases u2
        have ht2 := sG2 _ _ ht
        refine iteF ⟨_, rfl, t, _, 0, _, rfl, rfl, .inl (.inl ht2), rfl, _, rfl, lf, _, rfl, .inl (.inl (.inl gl2)), rfl, flat_strs tk, _, rfl, ?_⟩
        have isin : ∀ {z : Str}, inV (.str z) (tk.map V.str) = true → z ∈ tk := fun {z} h => by
          rw [inV_strs] at h
          exact of_decide_eq_true h
        have notin : ∀ {z : Str}, ¬ inV (.str z) (tk.map V.str) = true → z ∉ tk := fun {z} h m => by
          rw [inV_strs] at h
          exact h (decide_eq_true m)
        refine ite2 (fun c2 => ?_) (fun c2 => ?_)
        · exact ⟨_, rfl, by show 2 ≤ 2 ^ 24; decide, fun t nt => out (by rw [w1, if_pos (.inl (isin c2))]) G2 sG2 t nt⟩
        refine ⟨_, rfl, t, _, 1, _, rfl, rfl, .inl (.inl ht2), rfl, _, rfl, lf, _, rfl, .inl (.inl (.inl gl2)), rfl, flat_strs tk, _, rfl, ?_⟩
        refine ite2 (fun c3 => ?_) (fun c3 => ?_)
        · exact ⟨_, rfl, by show 2 ≤ 2 ^ 24; decide, fun t nt => out (by rw [w1, if_pos (.inr (isin c3))]) G2 sG2 t nt⟩
        rw [if_neg (fun z => z.elim (notin c2) (notin c3))] at w1
        refine ⟨_, rfl, .inl ⟨rfl, _, .inl (.inl gl2)⟩, _, rfl, lf, t, _, _, rfl, rfl, gl2, ht2, by rw [List.length_map]; show _ + 2 ≤ 2 ^ 24; omega, ?_⟩
        exact ⟨_, _, tk ++ [a1, b1], rfl, same_grow nlf sG2 _, by rw [upd_same, List.map_append]; rfl, by rw [List.length_append]; show _ + 2 ≤ _; omega, w1⟩
    · rintro σ G ⟨k3, k4, tk, rfl, sG, gl, tl, we⟩
      rw [hl, List.drop_length] at we
      have we' : KX.walkE l 0 [] ds = none := we
      refine ⟨_, rfl, a, vs, rfl, .inr (.inl (.inl (sG _ _ ha))), _, _, rfl, rfl, _, rfl, ite2 (fun c => ?_) (fun c => ?_)⟩
      · have c6 : 6 < ds.length := by have := of_decide_eq_true c; omega
        refine ⟨by show 2 ≤ 2 ^ 24; decide, fun t nt => ?_⟩
        have e : errD l (.tuple ds) = .tuple [.none, .str "many"] := by
          unfold errD
          simp only [we', if_pos c6]
        exact q _ _ (sG.trans (same_new nt _)) (by rw [e]; exact .tup upd_same (.cons .non (.cons (.str _) .nil)))
      · have c6 : ¬ 6 < ds.length := fun z => c (decide_eq_true (by omega))
        have e : errD l (.tuple ds) = .none := by
          unfold errD
          simp only [we', if_neg c6]
        exact q _ _ sG (by rw [e]; exact .non)
  | int i => exact iteT ⟨by show 2 ≤ 2 ^ 24; decide, fun t nt => no (fun _ z => nomatch z) t nt⟩
  | bl b => exact iteT ⟨by show 2 ≤ 2 ^ 24; decide, fun t nt => no (fun _ z => nomatch z) t nt⟩
  | non => exact iteT ⟨by show 2 ≤ 2 ^ 24; decide, fun t nt => no (fun _ z => nomatch z) t nt⟩
  | str x => exact iteT ⟨by show 2 ≤ 2 ^ 24; decide, fun t nt => no (fun _ z => nomatch z) t nt⟩
  | lst _ _ => exact iteT ⟨by show 2 ≤ 2 ^ 24; decide, fun t nt => no (fun _ z => nomatch z) t nt⟩
  | dic _ => exact iteT ⟨by show 2 ≤ 2 ^ 24; decide, fun t nt => no (fun _ z => nomatch z) t nt⟩
end
end K27
namespace K27
open PySem L2 GL KC GZ KW KR KX
section
variable {P : Program} {w : World} {K : PySem.W.Frag} {mg : Str → Option Value} {base : Heap}
theorem inV_sgs (c : Nat) (z : Str) : inV (.str ⟨#[c]⟩) (sgs z) = decide (c ∈ z.cps.toList) := by
  have e : sgs z = (z.cps.toList.map fun c => (⟨#[c]⟩ : Str)).map V.str := by unfold sgs; rw [List.map_map]; rfl
  rw [e, inV_strs]
  congr 1
  apply propext
  rw [List.mem_map]
  constructor
  · rintro ⟨d, h1, h2⟩
    have : d = c := by
      have h3 : (#[d] : Array Nat) = #[c] := congrArg Str.cps h2
      simpa using h3
    rw [← this]; exact h1
  · exact fun h => ⟨c, h, rfl⟩
theorem flat_sgs (z : Str) : (sgs z).all flatV = true := by
  unfold sgs
  rw [List.all_eq_true]; intro x hx; obtain ⟨y, _, rfl⟩ := List.mem_map.mp hx; rfl
theorem scLP : FnScope ["_law_value", "_law_letters", "_law_letter"] ["_law_value", "_law_letters"] (defScope sLPiece) := ⟨rfl, rfl, rfl, by decide +kernel, rfl, by decide +kernel, by decide +kernel⟩
theorem ok_lpiece {f : Addr} {fd : FuncData} (F : Fun K "_law_is_piece" "_law_is_piece" sLPiece f fd) (T : Txt mg) : FnOk P w K mg base CX0 1 f fd ["_law_value", "_law_letters"] (spLPiece K) := by
  refine F.ok scLP (fun vs H Q E h => ?_) (fun cdv A outer s H vs Q E hr h => ?_)
  · obtain ⟨l, v, d, rfl, _⟩ := h
    rfl
  obtain ⟨l, v, d, rfl, hd, hw, l1, l4, q⟩ := h
  refine ⟨_, pss_cons (ps_if (PW.pt (pw_or (pt_not (pt_val (pe_callB call_isi (by rfl) T.isi (by decide +kernel) (pa_cons (pv 0) (pa_cons (pe_bltn (v := .ty "str") (by rfl) T.str (by decide +kernel) rfl) pa_nil)))))
      (pw_or1 (pt_not (pt_chain op_le op_le pe_int (pe_callB call_len_str (by rfl) T.c.len PySem.boot_len (pa_cons (pv 0) pa_nil)) pe_int))))) (pss_one (ps_ret pe_bl)) pss_nil)
    (pss_one (ps_ret (pe_cmpR (op_eqL0 hr.units0) (pe_lc (own := [("_law_letter", 2)]) (g := gName 2) rfl scLP.nd (pi_str (pv 0))
      (blkOk_by (own := [("_law_letter", 2)]) (N := ["_law_value", "_law_letters", "_law_letter"]) (sc := defScope sLPiece) (by decide +kernel)) (fun _ _ _ _ _ => pg_name (i := 2) scLP.nd rfl (Or.inl rfl))
      (fun _ _ _ _ _ => pts_one (pt_cmpR (show OpR _ _ (rIn K true) from op_notIn_seq) (pv 2) (pe_callTy (show CallR _ _ rListX from call_listX (by rfl)) (by rfl) T.list (by decide +kernel) (pa_cons (pe_slice sl_str pe_str po_none (po_some (pv 1))) pa_nil)) (by rfl)))
      (fun _ _ _ _ _ => pv 2)) (pe_lst pa_nil) (nomark _)))), ?_⟩
  obtain ⟨ti, i1, i2⟩ := is_str hd
  refine ⟨_, rfl, _, _, ti, _, _, rfl, .ty _, i1, i2, _, rfl, ?_⟩
  cases hd with
  | str x =>
    have xl := hw.str
    have key : ∀ G, Same H G → Q (.bl (okP l x)) G := fun G s => by
      have k := q G s
      rw [piece_is] at k
      exact k
    refine iteF ⟨_, rfl, _, rfl, by show x.length ≤ 2 ^ 24; omega, _, _, rfl, rfl, _, rfl, ite2 (fun c => ?_) (fun c => ?_)⟩
    · have c1 : 1 ≤ x.length := by have := of_decide_eq_true c; omega
      refine ⟨_, _, rfl, rfl, _, rfl, ite2 (fun c2 => ?_) (fun c2 => ?_)⟩
      · have c3 : ¬ x.length ≤ 3 := by
          intro z
          have z' : ((x.length : Nat) : Int) ≤ 3 := by omega
          rw [decide_eq_true z'] at c2
          cases c2
        have k2 := key H (Same.refl H)
        unfold okP at k2
        rw [decide_eq_false c3, Bool.and_false, Bool.false_and] at k2
        exact k2
      · have c3 : x.length ≤ 3 := by
          refine Classical.byContradiction fun z => c2 ?_
          have z' : ¬ ((x.length : Nat) : Int) ≤ 3 := by omega
          rw [decide_eq_false z']
          rfl
        refine ⟨_, rfl, _, rfl, fun L nL => lc_it (walk_str (z := x)) (fun i G => Same H G ∧ G L = some (.lst (((x.cps.toList.take i).filter fun c => !inA l c).map fun c => V.str ⟨#[c]⟩)))
          ⟨same_new nL _, by rw [upd_same]; rfl⟩ (fun _ _ _ _ => True.intro) ?_ ?_⟩
        · rintro i y G G' hi ⟨s1, g1⟩ ⟨rfl, c, hc, rfl⟩
          have xs3 : x.cps.size = x.length := rfl
          refine ⟨rfl, _, rfl, _, rfl, l, rfl, _, rfl, by decide, _, rfl, by rw [cut_abcd l l1 l4, wS_len, List.length_range]; show l ≤ 2 ^ 24; omega, fun p np => ?_⟩
          rw [cut_abcd l l1 l4]
          have sp := same_new np (.lst (sgs (wS (List.range l))))
          refine ⟨p, _, rfl, .inl (.inl (.inl upd_same)), rfl, flat_sgs _, _, rfl, ite2 (fun c4 => ?_) (fun c4 => ?_)⟩
          · have c5 : (!inA l c) = true := by
              have c4' : (!inV (.str ⟨#[c]⟩) (sgs (wS (List.range l)))) = true := c4
              rw [inV_sgs] at c4'
              exact c4'
            refine ⟨_, rfl, _, sp _ _ g1, ?_, same_grow nL (s1.trans sp) _, ?_⟩
            · rw [List.length_map]
              have := List.length_filter_le (fun c => !inA l c) (x.cps.toList.take i)
              rw [List.length_take] at this
              show _ < 2 ^ 24
              omega
            · rw [upd_same, cps_take hc, List.filter_append, List.map_append, (show List.filter (fun c => !inA l c) [c] = [c] by simp only [List.filter_cons, c5, if_true, List.filter_nil])]
              rfl
          · have c5 : ¬ (!inA l c) = true := by
              intro z
              apply c4
              show (!inV (.str ⟨#[c]⟩) (sgs (wS (List.range l)))) = true
              rw [inV_sgs]
              exact z
            refine ⟨s1.trans sp, ?_⟩
            rw [cps_take hc, List.filter_append, (show List.filter (fun c => !inA l c) [c] = [] by rw [List.filter_cons, if_neg c5, List.filter_nil]), List.append_nil]
            exact sp _ _ g1
        · rintro G ⟨s1, g1⟩
          have e1 : x.cps.toList.take x.cps.size = x.cps.toList := by rw [← Array.length_toList, List.take_length]
          rw [e1] at g1
          refine ⟨by show 0 ≤ 2 ^ 24; decide, fun e nE => ?_⟩
          have sE := same_new nE (.lst [])
          refine ⟨L, e, _, rfl, rfl, sE _ _ g1, upd_same, ?_⟩
          have k2 := key _ (s1.trans sE)
          unfold okP at k2
          rw [decide_eq_true c1, decide_eq_true c3, Bool.true_and, Bool.true_and] at k2
          have e2 : ((x.cps.toList.filter fun c => !inA l c).map fun c => V.str ⟨#[c]⟩).isEmpty = x.cps.toList.all (inA l) := by
            generalize x.cps.toList = cs
            induction cs with
            | nil => rfl
            | cons c cs ih =>
              cases h : inA l c with
              | true => rw [List.filter_cons, if_neg (by rw [h]; decide), ih, List.all_cons, h, Bool.true_and]
              | false => rw [List.filter_cons, if_pos (by rw [h]; rfl), List.all_cons, h, Bool.false_and]; rfl
          rw [e2]
          exact k2
    · have c3 : ¬ 1 ≤ x.length := by
        intro z
        exact c (decide_eq_true (by omega))
      have k2 := key H (Same.refl H)
      unfold okP at k2
      rw [decide_eq_false c3, Bool.false_and, Bool.false_and] at k2
      exact ⟨_, rfl, k2⟩
  | int i => exact iteT (q H (Same.refl H))
  | bl b => exact iteT (q H (Same.refl H))
  | non => exact iteT (q H (Same.refl H))
  | tup _ _ => exact iteT (q H (Same.refl H))
  | lst _ _ => exact iteT (q H (Same.refl H))
  | dic _ => exact iteT (q H (Same.refl H))
theorem scLE : FnScope ["_law_letters", "_law_value", "_law_ahead", "_law_index", "_law_pair"] ["_law_letters", "_law_value"] (defScope sLErr) := ⟨rfl, rfl, rfl, by decide +kernel, rfl, by decide +kernel, by decide +kernel⟩
theorem ok_lerr {f fP : Addr} {fd fdP : FuncData} (F : Fun K "_law_error" "_law_error" sLErr f fd) (T : Txt mg) (D : Dfn P w K mg base "_law_is_piece" 1 fP fdP ["_law_value", "_law_letters"] (spLPiece K)) :
    FnOk P w K mg base CX0 2 f fd ["_law_letters", "_law_value"] (spRErr K) := by
  refine F.ok scLE (fun vs H Q E h => ?_) (fun cdv A outer s H vs Q E hr h => ?_)
  · obtain ⟨l, v, d, rfl, _⟩ := h
    rfl
  obtain ⟨l, v, d, rfl, hd, hw, l1, l4, q⟩ := h
  refine ⟨_, pss_cons (ps_if (pt_not (pt_val (pe_callB call_isi (by rfl) T.isi (by decide +kernel) (pa_cons (pv 1) (pa_cons (pe_bltn (v := .ty "tuple") (by rfl) T.c.tuple (by decide +kernel) rfl) pa_nil))))) (pss_one (ps_ret (pe_tup (pa_cons pe_non (pa_cons pe_str pa_nil))))) pss_nil)
    (pss_cons (ps_set (i := 2) scLE.nd rfl (Or.inl rfl) (pe_lst pa_nil))
    (pss_cons (ps_for PassesOwn.never rfl (pi_range1 rfl T.c.range (pa_cons (pe_callB call_len_seq (by rfl) T.c.len PySem.boot_len (pa_cons (pv 1) pa_nil)) pa_nil)) (pg_name (i := 3) scLE.nd rfl (Or.inl rfl))
      (pss_cons (ps_set (i := 4) scLE.nd rfl (Or.inl rfl) (pe_ix ix_tup (pv 1) (pv 3) (fun _ _ => rfl)))
      (pss_cons (ps_if (PW.pt (pw_or (pt_not (pt_val (pe_callB call_isi (by rfl) T.isi (by decide +kernel) (pa_cons (pv 4) (pa_cons (pe_bltn (v := .ty "tuple") (by rfl) T.c.tuple (by decide +kernel) rfl) pa_nil)))))
          (pw_or1 (pt_cmpR op_ne (pe_callB call_len_seq (by rfl) T.c.len PySem.boot_len (pa_cons (pv 4) pa_nil)) pe_int (nomark _))))) (pss_one (ps_ret (pe_tup (pa_cons (pv 3) (pa_cons pe_str pa_nil))))) pss_nil)
      (pss_cons (ps_if (PW.pt (pw_or (pt_not (pt_val (pe_call D.ok hr rfl D.m D.kp D.b .nil pass0 (pa_cons (pe_ix ix_tup (pv 4) pe_int (fun _ _ => rfl)) (pa_cons (pv 0) pa_nil)))))
          (pw_or1 (pt_not (pt_val (pe_call D.ok hr rfl D.m D.kp D.b .nil pass0 (pa_cons (pe_ix ix_tup (pv 4) pe_int (fun _ _ => rfl)) (pa_cons (pv 0) pa_nil)))))))) (pss_one (ps_ret (pe_tup (pa_cons (pv 3) (pa_cons pe_str pa_nil))))) pss_nil)
      (pss_cons (ps_if (PW.pt (pw_or (pt_cmpR op_ne (pe_callB call_len_str (by rfl) T.c.len PySem.boot_len (pa_cons (pe_ix ix_tup (pv 4) pe_int (fun _ _ => rfl)) pa_nil)) (pe_callB call_len_str (by rfl) T.c.len PySem.boot_len (pa_cons (pe_ix ix_tup (pv 4) pe_int (fun _ _ => rfl)) pa_nil)) (nomark _))
          (pw_or (pt_cmpR op_eq (pe_ix ix_tup (pv 4) pe_int (fun _ _ => rfl)) (pe_ix ix_tup (pv 4) pe_int (fun _ _ => rfl)) (nomark _))
          (pw_or (pt_cmpR op_in_seq (pe_ix ix_tup (pv 4) pe_int (fun _ _ => rfl)) (pv 2) (by rfl)) (pw_or1 (pt_cmpR op_in_seq (pe_ix ix_tup (pv 4) pe_int (fun _ _ => rfl)) (pv 2) (by rfl))))))) (pss_one (ps_ret (pe_tup (pa_cons (pv 3) (pa_cons pe_str pa_nil))))) pss_nil)
      (pss_one (ps_set (i := 2) scLE.nd rfl (Or.inl rfl) (pe_op op_cat (pv 2) (pe_lst (pa_cons (pe_ix ix_tup (pv 4) pe_int (fun _ _ => rfl)) (pa_cons (pe_ix ix_tup (pv 4) pe_int (fun _ _ => rfl)) pa_nil)))))))))))
    (pss_one (ps_ret (pe_ifExp (pt_cmpR op_gt (pe_callB call_len_seq (by rfl) T.c.len PySem.boot_len (pa_cons (pv 1) pa_nil)) pe_int (nomark _)) (pe_tup (pa_cons pe_non (pa_cons pe_str pa_nil))) pe_non))))), ?_⟩
  obtain ⟨ti, i1, i2⟩ := is_tuple hd
  refine ⟨_, rfl, _, _, ti, _, _, rfl, .ty _, i1, i2, _, rfl, ?_⟩
  have no : (∀ ds, d ≠ .tuple ds) → ∀ t, H t = none → Q (.ref t) (upd H t (.tup [.non, .str "rule"])) := fun hn t nt => by
    have e : errD l d = .tuple [.none, .str "rule"] := by
      cases d with
      | tuple ds => exact absurd rfl (hn ds)
      | _ => rfl
    exact q _ _ (same_new nt _) (by rw [e]; exact .tup upd_same (.cons .non (.cons (.str _) .nil)))
  cases hd with
  | @tup a vs ds ha hda =>
    have hl : vs.length = ds.length := hda.length
    have dl := hw.len
    refine iteF ⟨by show 0 ≤ 2 ^ 24; decide, fun lf nlf => ?_⟩
    have s0 := same_new nlf (.lst [])
    have g0 : upd H lf (.lst []) lf = some (.lst (([] : List Str).map V.str)) := upd_same
    generalize upd H lf (.lst []) = H1 at s0 g0
    refine ⟨_, rfl, a, vs, rfl, .inr (.inl (.inl (s0 _ _ ha))), vs.length, rfl, by omega, by omega, for_range (lo := 0) (n := vs.length) (fun i σ G => ∃ (lf : Addr) (k3 k4 : Option V) (tk : List Str), σ = [some (.int l), some (.ref a), some (.ref lf), k3, k4] ∧ Same H G ∧ G lf = some (.lst (tk.map V.str)) ∧ tk.length ≤ 2 * i ∧
        KX.walkE l 0 [] ds = KX.walkE l i tk (ds.drop i)) ⟨lf, none, none, [], rfl, s0, g0, Nat.zero_le _, rfl⟩ ?_ ?_⟩
    · rintro i σ G hi ⟨lf, k3, k4, tk, rfl, sG, gl, tl, we⟩
      obtain ⟨x, e1⟩ : ∃ x, vs[i]? = some x := ⟨_, List.getElem?_eq_getElem hi⟩
      obtain ⟨d1, hd1, hD1⟩ := hda.get e1
      have dr : ds.drop i = d1 :: ds.drop (i + 1) := by
        have il : i < ds.length := by omega
        rw [List.drop_eq_getElem_cons il]
        rw [List.getElem?_eq_getElem il] at hd1
        cases hd1
        rfl
      have wd1 : Small d1 := hw.mem (List.mem_of_getElem? hd1)
      have out : KX.walkE l 0 [] ds = some i → ∀ G2, Same H G2 → ∀ t, G2 t = none → Q (.ref t) (upd G2 t (.tup [.int (0 + (i : Nat)), .str "pair"])) := fun h G2 s2 t nt => by
        have e : errD l (.tuple ds) = .tuple [.int (i : Nat), .str "pair"] := by
          unfold errD
          simp only [h]
        rw [Int.zero_add]
        exact q _ _ (s2.trans (same_new nt _)) (by rw [e]; exact .tup upd_same (.cons (.int _) (.cons (.str _) .nil)))
      rw [dr] at we
      have bad : pairD l d1 = none → KX.walkE l 0 [] ds = some i := fun h => by
        rw [we]; unfold KX.walkE; rw [h]
      refine ⟨_, rfl, _, rfl, a, vs, _, x, rfl, rfl, .inl (.inl (sG _ _ ha)), by rw [Int.zero_add]; exact atI_nat e1, ?_⟩
      obtain ⟨t2, j1, j2⟩ := is_tuple (hD1.same sG)
      refine ⟨_, rfl, _, _, t2, _, _, rfl, .ty _, j1, j2, _, rfl, ?_⟩
      cases hD1 with
      | @tup t us es ht hu =>
        have hle : us.length = es.length := hu.length
        have ht1 := sG _ _ ht
        refine iteF ⟨_, rfl, t, us, rfl, .inr (.inl (.inl ht1)), rfl, _, rfl, ite2 (fun c => ?_) (fun c => ?_)⟩
        · have c' : es.length ≠ 2 := by
            intro z
            rw [hle, z] at c
            exact absurd c (by decide)
          exact ⟨_, rfl, by show 2 ≤ 2 ^ 24; decide, fun t nt => out (bad (pair_no c')) G sG t nt⟩
        have c' : es.length = 2 := by
          refine Classical.byContradiction fun z => c ?_
          have z' : ¬ (V.int ((us.length : Nat) : Int) = V.int 2) := fun y => z (by have := V.int.inj y; omega)
          rw [decide_eq_false z']
          rfl
        match es, us, c', hu, ht, ht1, wd1, hd1, dr, we, bad with
        | [x, y], _, _, .cons (v := vx) h1 (.cons (v := vy) h2 .nil), ht, ht1, wd1, hd1, dr, we, bad =>
        have wx : Small x := wd1.mem (by simp)
        have wy : Small y := wd1.mem (by simp)
        refine ⟨_, rfl, t, _, 0, _, rfl, rfl, .inl (.inl ht1), rfl, _, rfl, l, vx, x, rfl, h1.same sG, wx, l1, l4, fun G1 s1 => ⟨_, rfl, ?_⟩⟩
        have sG1 := sG.trans s1
        cases c1 : pieceD l x with
        | none =>
          have e : pairD l (.tuple [x, y]) = none := by
            show (match pieceD l x, pieceD l y with | some x, some y => if x.length = y.length ∧ x ≠ y then some (x, y) else none | _, _ => none) = none
            rw [c1]
          exact iteT ⟨_, rfl, by show 2 ≤ 2 ^ 24; decide, fun t nt => out (bad e) G1 sG1 t nt⟩
        | some x' =>
        obtain ⟨rfl, o1⟩ := piece_str c1
        cases h1
        have ht2 := s1 _ _ ht1
        refine iteF ⟨_, rfl, t, _, 1, _, rfl, rfl, .inl (.inl ht2), rfl, _, rfl, l, vy, y, rfl, h2.same sG1, wy, l1, l4, fun G2 s2 => ⟨_, rfl, ?_⟩⟩
        have sG2 := sG1.trans s2
        have ht3 := s2 _ _ ht2
        have gl3 := s2 _ _ (s1 _ _ gl)
        cases c2 : pieceD l y with
        | none =>
          have e : pairD l (.tuple [.str x', y]) = none := by
            show (match pieceD l (.str x'), pieceD l y with | some x, some y => if x.length = y.length ∧ x ≠ y then some (x, y) else none | _, _ => none) = none
            rw [c1, c2]
          exact iteT ⟨_, rfl, by show 2 ≤ 2 ^ 24; decide, fun t nt => out (bad e) G2 sG2 t nt⟩
        | some y' =>
        obtain ⟨rfl, o2⟩ := piece_str c2
        cases h2
        have xl := wx.str
        have yl := wy.str
        have e0 : pairD l (.tuple [.str x', .str y']) = if x'.length = y'.length ∧ x' ≠ y' then some (x', y') else none := by
          show (match pieceD l (.str x'), pieceD l (.str y') with | some x, some y => if x.length = y.length ∧ x ≠ y then some (x, y) else none | _, _ => none) = _
          rw [c1, c2]
        refine iteF ⟨_, rfl, t, _, 0, _, rfl, rfl, .inl (.inl ht3), rfl, x', rfl, by show x'.length ≤ 2 ^ 24; omega, _, rfl, t, _, 1, _, rfl, rfl, .inl (.inl ht3), rfl, y', rfl, by show y'.length ≤ 2 ^ 24; omega, rfl, _, rfl, ite2 (fun c3 => ?_) (fun c3 => ?_)⟩
        · have c4 : x'.length ≠ y'.length := fun z => by
            rw [z] at c3
            simp at c3
          rw [if_neg (fun z => c4 z.1)] at e0
          exact ⟨_, rfl, by show 2 ≤ 2 ^ 24; decide, fun t nt => out (bad e0) G2 sG2 t nt⟩
        have c4 : x'.length = y'.length := by
          refine Classical.byContradiction fun z => c3 ?_
          have z' : ¬ (V.int ((x'.length : Nat) : Int) = V.int ((y'.length : Nat) : Int)) := fun y => z (by have := V.int.inj y; omega)
          rw [decide_eq_false z']
          rfl
        refine ⟨_, rfl, t, _, 0, _, rfl, rfl, .inl (.inl ht3), rfl, _, rfl, t, _, 1, _, rfl, rfl, .inl (.inl ht3), rfl, rfl, _, rfl, ite2 (fun c5 => ?_) (fun c5 => ?_)⟩
        · have c6 : x' = y' := V.str.inj (of_decide_eq_true c5)
          rw [if_neg (fun z => z.2 c6)] at e0
          exact ⟨_, rfl, by show 2 ≤ 2 ^ 24; decide, fun t nt => out (bad e0) G2 sG2 t nt⟩
        have c6 : x' ≠ y' := fun z => c5 (decide_eq_true (by rw [z]))
        rw [if_pos ⟨c4, c6⟩] at e0
        have w1 : KX.walkE l 0 [] ds = if x' ∈ tk ∨ y' ∈ tk then some i else KX.walkE l (i + 1) (tk ++ [x', y']) (ds.drop (i + 1)) := by
          rw [we]
          show (match pairD l (.tuple [.str x', .str y']) with | none => some i | some (x, y) => if x ∈ tk ∨ y ∈ tk then some i else KX.walkE l (i + 1) (tk ++ [x, y]) (ds.drop (i + 1))) = _
          rw [e0]
        have isin : ∀ {z : Str}, inV (.str z) (tk.map V.str) = true → z ∈ tk := fun {z} h => by
          rw [inV_strs] at h
          exact of_decide_eq_true h
        have notin : ∀ {z : Str}, ¬ inV (.str z) (tk.map V.str) = true → z ∉ tk := fun {z} h m => by
          rw [inV_strs] at h
          exact h (decide_eq_true m)
        refine ⟨_, rfl, t, _, 0, _, rfl, rfl, .inl (.inl ht3), rfl, _, rfl, lf, _, rfl, .inl (.inl (.inl gl3)), rfl, flat_strs tk, _, rfl, ite2 (fun c7 => ?_) (fun c7 => ?_)⟩
        · exact ⟨_, rfl, by show 2 ≤ 2 ^ 24; decide, fun t nt => out (by rw [w1, if_pos (.inl (isin c7))]) G2 sG2 t nt⟩
        refine ⟨_, rfl, t, _, 1, _, rfl, rfl, .inl (.inl ht3), rfl, _, rfl, lf, _, rfl, .inl (.inl (.inl gl3)), rfl, flat_strs tk, _, rfl, ite2 (fun c8 => ?_) (fun c8 => ?_)⟩
        · exact ⟨_, rfl, by show 2 ≤ 2 ^ 24; decide, fun t nt => out (by rw [w1, if_pos (.inr (isin c8))]) G2 sG2 t nt⟩
        rw [if_neg (fun z => z.elim (notin c7) (notin c8))] at w1
        refine ⟨_, rfl, _, rfl, t, _, 0, _, rfl, rfl, .inl (.inl ht3), rfl, _, rfl, t, _, 1, _, rfl, rfl, .inl (.inl ht3), rfl, by show 2 ≤ 2 ^ 24; decide, fun e nE => ?_⟩
        have tE := same_new nE (.lst [V.str x', V.str y'])
        refine ⟨lf, e, tk.map V.str, [V.str x', V.str y'], rfl, rfl, tE _ _ gl3, upd_same, by rw [List.length_map]; show _ + 2 ≤ 2 ^ 24; omega, fun lf2 n2 => ?_⟩
        exact ⟨lf2, _, _, tk ++ [x', y'], rfl, sG2.trans (tE.trans (same_new n2 _)), by rw [upd_same, List.map_append]; rfl, by rw [List.length_append]; show _ + 2 ≤ _; omega, w1⟩
      | int i => exact iteT ⟨_, rfl, by show 2 ≤ 2 ^ 24; decide, fun t nt => out (bad rfl) G sG t nt⟩
      | bl b => exact iteT ⟨_, rfl, by show 2 ≤ 2 ^ 24; decide, fun t nt => out (bad rfl) G sG t nt⟩
      | non => exact iteT ⟨_, rfl, by show 2 ≤ 2 ^ 24; decide, fun t nt => out (bad rfl) G sG t nt⟩
      | str x => exact iteT ⟨_, rfl, by show 2 ≤ 2 ^ 24; decide, fun t nt => out (bad rfl) G sG t nt⟩
      | lst _ _ => exact iteT ⟨_, rfl, by show 2 ≤ 2 ^ 24; decide, fun t nt => out (bad rfl) G sG t nt⟩
      | dic _ => exact iteT ⟨_, rfl, by show 2 ≤ 2 ^ 24; decide, fun t nt => out (bad rfl) G sG t nt⟩
    · rintro σ G ⟨lf, k3, k4, tk, rfl, sG, gl, tl, we⟩
      rw [hl, List.drop_length] at we
      have we' : KX.walkE l 0 [] ds = none := we
      refine ⟨_, rfl, a, vs, rfl, .inr (.inl (.inl (sG _ _ ha))), _, _, rfl, rfl, _, rfl, ite2 (fun c => ?_) (fun c => ?_)⟩
      · have c6 : 6 < ds.length := by have := of_decide_eq_true c; omega
        refine ⟨by show 2 ≤ 2 ^ 24; decide, fun t nt => ?_⟩
        have e : errD l (.tuple ds) = .tuple [.none, .str "many"] := by
          unfold errD
          simp only [we', if_pos c6]
        exact q _ _ (sG.trans (same_new nt _)) (by rw [e]; exact .tup upd_same (.cons .non (.cons (.str _) .nil)))
      · have c6 : ¬ 6 < ds.length := fun z => c (decide_eq_true (by omega))
        have e : errD l (.tuple ds) = .none := by
          unfold errD
          simp only [we', if_neg c6]
        exact q _ _ sG (by rw [e]; exact .non)
  | int i => exact iteT ⟨by show 2 ≤ 2 ^ 24; decide, fun t nt => no (fun _ z => nomatch z) t nt⟩
  | bl b => exact iteT ⟨by show 2 ≤ 2 ^ 24; decide, fun t nt => no (fun _ z => nomatch z) t nt⟩
  | non => exact iteT ⟨by show 2 ≤ 2 ^ 24; decide, fun t nt => no (fun _ z => nomatch z) t nt⟩
  | str x => exact iteT ⟨by show 2 ≤ 2 ^ 24; decide, fun t nt => no (fun _ z => nomatch z) t nt⟩
  | lst _ _ => exact iteT ⟨by show 2 ≤ 2 ^ 24; decide, fun t nt => no (fun _ z => nomatch z) t nt⟩
  | dic _ => exact iteT ⟨by show 2 ≤ 2 ^ 24; decide, fun t nt => no (fun _ z => nomatch z) t nt⟩
end
end K27
namespace K27
open PySem L2 GL KC GZ KW KR KX
/-- a value that may stand for a pair -/
def Al (K : PySem.W.Frag) (d c : Addr) (G : Hp) (v : V) : Prop := ∃ x, Dt K (Hd d c G) v x ∧ Fit 400 3 x
theorem Al.same {K : PySem.W.Frag} {d c : Addr} {G G' : Hp} {v : V} (h : Al K d c G v) (s : Same (Hd d c G) (Hd d c G')) : Al K d c G' v := let ⟨x, h1, h2⟩ := h; ⟨x, h1.same s, h2⟩
def AlAll (K : PySem.W.Frag) (d c : Addr) (G : Hp) (vs : List V) : Prop := ∀ v ∈ vs, Al K d c G v
theorem AlAll.same {K : PySem.W.Frag} {d c : Addr} {G G' : Hp} {vs : List V} (h : AlAll K d c G vs) (s : Same (Hd d c G) (Hd d c G')) : AlAll K d c G' vs := fun v hv => (h v hv).same s
theorem AlAll.cons {K : PySem.W.Frag} {d c : Addr} {G : Hp} {v : V} {vs : List V} (a : Al K d c G v) (h : AlAll K d c G vs) : AlAll K d c G (v :: vs) := fun u hu => by
  rcases List.mem_cons.mp hu with rfl | hu
  · exact a
  · exact h u hu
theorem AlAll.app {K : PySem.W.Frag} {d c : Addr} {G : Hp} {vs us : List V} (a : AlAll K d c G vs) (h : AlAll K d c G us) : AlAll K d c G (vs ++ us) := fun u hu => by
  rcases List.mem_append.mp hu with hu | hu
  · exact a u hu
  · exact h u hu
def rLenX : List V → Hp → VK → Prop := fun xs H Q => ∃ z : Str, xs = [.str z] ∧ z.length ≤ sizeLine ∧ Q (.int z.length) H
theorem call_lenX {X : Cx} : CallR X (.builtin "len") rLenX := call_len_str
def spOddP (K : PySem.W.Frag) : Sp := fun vs H Q _ => ∃ (d c a : Addr) (l : Int) (m k : Nat) (rs : List Pr), vs = [.ref d, .int l, .ref a] ∧ Deck H d c m ∧ m ≤ 900000000 ∧ k ≤ 4 ∧ Rul k rs ∧ RuleAt (Hd d c H) a rs ∧
  ∀ (v : V) (G : Hp), Al K d c G v → Deck G d c (m + 2) → Same (Hd d c H) (Hd d c G) → Q v G
/-- the text by hand, cut as long as a word -/
theorem cut_aba (n : Nat) (h1 : 1 ≤ n) (h3 : n ≤ 3) : Fit 40 0 (.str (cutS ("aba" : Str) none (some (n : Int)))) := by
  rcases n with _ | _ | _ | _ | n
  · omega
  · exact fit_str (m := 20) (by decide +kernel) (by decide)
  · exact fit_str (m := 20) (by decide +kernel) (by decide)
  · exact fit_str (m := 20) (by decide +kernel) (by decide)
  · omega
section
variable {P : Program} {w : World} {K : PySem.W.Frag} {mg : Str → Option Value} {base : Heap}
abbrev NOd : List Str := ["_law_deck_here", "_law_letters", "_law_rule_here", "_law_one_here", "_law_some", "_law_pair"]
theorem scOd : FnScope ["_law_deck_here", "_law_letters", "_law_rule_here", "_law_one_here", "_law_some", "_law_pair"] ["_law_deck_here", "_law_letters", "_law_rule_here"] (defScope sOdd) := ⟨rfl, rfl, rfl, by decide +kernel, rfl, by decide +kernel, by decide +kernel⟩
theorem ok_odd {f fO : Addr} {fd fdO : FuncData} (F : Fun K "_law_odd_pair" "_law_odd_pair" sOdd f fd) (T : Txt mg) (O : Dfn P w K mg base "_law_one" 2 fO fdO ["_law_deck_here", "_law_items"] spOne) :
    FnOk P w K mg base CX0 3 f fd ["_law_deck_here", "_law_letters", "_law_rule_here"] (spOddP K) := by
  refine F.ok scOd (fun vs H Q E h => ?_) (fun cdv A outer s H vs Q E hr h => ?_)
  · obtain ⟨d, c, a, l, m, k, rs, rfl, _⟩ := h
    rfl
  obtain ⟨d, c, ra, l, m, kl, rs, rfl, D, hm, k4, R, RA, q⟩ := h
  refine ⟨_, pss_cons (ps_set (i := 3) scOd.nd rfl (Or.inl rfl) (pe_call O.ok hr rfl O.m O.kp O.b .nil pass0 (pa_cons (pv 0) (pa_cons (pe_lst (pa_cons pe_str (pa_cons pe_str (pa_cons pe_str (pa_cons pe_str (pa_cons pe_str (pa_cons pe_str (pa_cons pe_str (pa_cons pe_str (pa_cons pe_str (pa_cons pe_str (pa_cons pe_str (pa_cons pe_str pa_nil))))))))))))) pa_nil))))
    (pss_cons (ps_set (i := 4) scOd.nd rfl (Or.inl rfl) (pe_lst (pa_cons pe_non (pa_cons pe_int (pa_cons pe_bl (pa_cons pe_str (pa_cons (pe_tup pa_nil) (pa_cons (pe_tup (pa_cons pe_str pa_nil)) (pa_cons (pe_tup (pa_cons pe_str (pa_cons pe_str (pa_cons pe_str pa_nil)))) (pa_cons (pe_lst (pa_cons pe_str (pa_cons pe_str pa_nil))) (pa_cons (pe_tup (pa_cons (pv 3) (pa_cons (pv 3) pa_nil))) (pa_cons (pe_tup (pa_cons (pv 3) (pa_cons pe_str pa_nil))) (pa_cons (pe_tup (pa_cons pe_str (pa_cons (pv 3) pa_nil))) (pa_cons (pe_tup (pa_cons pe_int (pa_cons pe_str pa_nil))) pa_nil))))))))))))))
    (pss_cons (ps_set (i := 4) scOd.nd rfl (Or.inl rfl) (pe_op op_cat (pv 4) (pe_lst (pa_cons (pe_tup (pa_cons pe_str (pa_cons pe_non pa_nil))) (pa_cons (pe_tup (pa_cons (pe_tup (pa_cons pe_str pa_nil)) (pa_cons (pe_tup (pa_cons pe_str pa_nil)) pa_nil))) (pa_cons pe_dnewK (pa_cons (pe_tup (pa_cons pe_str (pa_cons (pe_lst (pa_cons pe_str pa_nil)) pa_nil))) (pa_cons (pe_tup (pa_cons pe_str (pa_cons pe_str pa_nil))) (pa_cons (pe_tup (pa_cons pe_str (pa_cons pe_str pa_nil))) (pa_cons (pe_tup (pa_cons pe_str (pa_cons pe_bl pa_nil))) (pa_cons (pe_lst pa_nil) (pa_cons pe_str pa_nil))))))))))))
    (pss_cons (ps_set (i := 4) scOd.nd rfl (Or.inl rfl) (pe_op op_cat (pv 4) (pe_lst (pa_cons (pe_tup (pa_cons pe_str (pa_cons pe_str pa_nil))) (pa_cons (pe_tup (pa_cons pe_str (pa_cons pe_str pa_nil))) (pa_cons (pe_tup (pa_cons pe_str (pa_cons pe_str pa_nil))) (pa_cons (pe_tup (pa_cons (pv 3) (pa_cons pe_str pa_nil))) pa_nil)))))))
    (pss_one (ps_ret (pe_call O.ok hr rfl O.m O.kp O.b .nil pass0 (pa_cons (pv 0) (pa_cons (pe_op op_cat (pe_op op_cat (pv 4) (pe_lc (own := [("_law_pair", 5)]) (g := gName 5) (tt := tYes) rfl scOd.nd (pi_tup (pv 2)) (blkOk_by (own := [("_law_pair", 5)]) (N := NOd) (sc := defScope sOdd) (by decide +kernel)) (fun _ _ _ _ _ => pg_name (i := 5) scOd.nd rfl (Or.inl rfl)) (fun _ _ _ _ _ => pts_nil) (fun _ _ _ _ _ => pe_revT (pv 5)))) (pe_lc (own := [("_law_pair", 5)]) (g := gName 5) (tt := tYes) rfl scOd.nd (pi_tup (pv 2)) (blkOk_by (own := [("_law_pair", 5)]) (N := NOd) (sc := defScope sOdd) (by decide +kernel)) (fun _ _ _ _ _ => pg_name (i := 5) scOd.nd rfl (Or.inl rfl)) (fun _ _ _ _ _ => pts_nil) (fun _ _ _ _ _ => show PE _ _ (tTup (tCons (tOp (rIxT K) _ _) (tCons (tSl _ _ _ (tPart (tCB rLenX (tCons (tOp (rIxT K) _ _) tNil)))) tNil))) from pe_tup (pa_cons (pe_ixT (pv 5) pe_int (fun _ _ => rfl)) (pa_cons (pe_slice sl_str pe_str po_none (po_some (pe_callB (show CallR _ _ rLenX from call_lenX) (by rfl) T.c.len PySem.boot_len (pa_cons (pe_ixT (pv 5) pe_int (fun _ _ => rfl)) pa_nil)))) pa_nil))))) pa_nil)))))))), ?_⟩
  have step : ∀ (G : Hp) (p : Addr) (o : HO) (j : Nat), G p = none → Deck G d c j → Same (Hd d c H) (Hd d c G) → Deck (upd G p o) d c j ∧ Same (Hd d c H) (Hd d c (upd G p o)) ∧ Same (Hd d c G) (Hd d c (upd G p o)) ∧ Hd d c (upd G p o) p = some o := fun G p o j n DG sG =>
    ⟨DG.new n o, sG.trans (hd_new n o), hd_new n o, hd_of upd_same (DG.free n).1 (DG.free n).2⟩
  have S : ∀ x : Str, (PyData.str x).shown.length ≤ 20 → Fit 40 0 (.str x) := fun x h => fit_str (m := 20) h (by decide)
  refine ⟨_, rfl, by show 12 ≤ 2 ^ 24; decide, fun q0 nq0 => ?_⟩
  obtain ⟨D0, s0, e0, f0⟩ := step _ _ (.lst [V.str "a", V.str "ab", V.str "abc", V.str "bca", V.str "abcd", V.str "", V.str "A", V.str "e", V.str "a ", V.str "a\n", V.str "1", V.str "aaaa"]) m nq0 D (Same.refl _)
  generalize upd H q0 (.lst [V.str "a", V.str "ab", V.str "abc", V.str "bca", V.str "abcd", V.str "", V.str "A", V.str "e", V.str "a ", V.str "a\n", V.str "1", V.str "aaaa"]) = G0 at D0 s0 e0 f0
  refine ⟨d, c, q0, _, m, rfl, D0, by omega, f0, by show 0 < 12; decide, by show 12 ≤ 100000; decide, fun v1 G1 hv1 D1 s1 => ?_⟩
  have hz : ∃ z, v1 = .str z ∧ Fit 40 0 (.str z) := by
    revert hv1
    generalize v1 = v
    revert v
    simp only [List.forall_mem_cons]
    exact ⟨⟨_, rfl, S _ (by decide +kernel)⟩, ⟨_, rfl, S _ (by decide +kernel)⟩, ⟨_, rfl, S _ (by decide +kernel)⟩, ⟨_, rfl, S _ (by decide +kernel)⟩, ⟨_, rfl, S _ (by decide +kernel)⟩, ⟨_, rfl, S _ (by decide +kernel)⟩, ⟨_, rfl, S _ (by decide +kernel)⟩, ⟨_, rfl, S _ (by decide +kernel)⟩, ⟨_, rfl, S _ (by decide +kernel)⟩, ⟨_, rfl, S _ (by decide +kernel)⟩, ⟨_, rfl, S _ (by decide +kernel)⟩, ⟨_, rfl, S _ (by decide +kernel)⟩, fun _ h => nomatch h⟩
  obtain ⟨z, rfl, fz⟩ := hz
  have t0 : Same (Hd d c H) (Hd d c G1) := s0.trans s1
  have A0 : AlAll K d c G1 [] := fun v hv => nomatch hv
  clear s1 s0 e0 f0 D0 nq0 hv1
  refine ⟨by show 0 ≤ 2 ^ 24; decide, fun p1 n1 => ?_⟩
  obtain ⟨E1, t1, e1, g1⟩ := step _ _ (.tup []) (m + 1) n1 D1 t0
  generalize upd G1 p1 (.tup []) = H1 at E1 t1 e1 g1
  have A1 := A0.same e1
  replace A1 := AlAll.cons (⟨_, .tup g1 .nil, (Fit.tup (FitAll.nil (k := 0))).mono (by decide) (by decide)⟩) A1
  refine ⟨by show 1 ≤ 2 ^ 24; decide, fun p2 n2 => ?_⟩
  obtain ⟨E2, t2, e2, g2⟩ := step _ _ (.tup [V.str "a"]) (m + 1) n2 E1 t1
  generalize upd H1 p2 (.tup [V.str "a"]) = H2 at E2 t2 e2 g2
  have A2 := A1.same e2
  replace A2 := AlAll.cons (⟨_, .tup g2 (.cons (.str _) .nil), (Fit.tup (FitAll.cons (S _ (by decide +kernel)) (FitAll.nil (k := 0)))).mono (by decide) (by decide)⟩) A2
  refine ⟨by show 3 ≤ 2 ^ 24; decide, fun p3 n3 => ?_⟩
  obtain ⟨E3, t3, e3, g3⟩ := step _ _ (.tup [V.str "a", V.str "b", V.str "c"]) (m + 1) n3 E2 t2
  generalize upd H2 p3 (.tup [V.str "a", V.str "b", V.str "c"]) = H3 at E3 t3 e3 g3
  have A3 := A2.same e3
  replace A3 := AlAll.cons (⟨_, .tup g3 (.cons (.str _) (.cons (.str _) (.cons (.str _) .nil))), (Fit.tup (FitAll.cons (S _ (by decide +kernel)) (FitAll.cons (S _ (by decide +kernel)) (FitAll.cons (S _ (by decide +kernel)) (FitAll.nil (k := 0)))))).mono (by decide) (by decide)⟩) A3
  refine ⟨by show 2 ≤ 2 ^ 24; decide, fun p4 n4 => ?_⟩
  obtain ⟨E4, t4, e4, g4⟩ := step _ _ (.lst [V.str "a", V.str "b"]) (m + 1) n4 E3 t3
  generalize upd H3 p4 (.lst [V.str "a", V.str "b"]) = H4 at E4 t4 e4 g4
  have A4 := A3.same e4
  replace A4 := AlAll.cons (⟨_, .lst g4 (.cons (.str _) (.cons (.str _) .nil)), (Fit.lst (FitAll.cons (S _ (by decide +kernel)) (FitAll.cons (S _ (by decide +kernel)) (FitAll.nil (k := 0))))).mono (by decide) (by decide)⟩) A4
  refine ⟨_, rfl, _, rfl, by show 2 ≤ 2 ^ 24; decide, fun p5 n5 => ?_⟩
  obtain ⟨E5, t5, e5, g5⟩ := step _ _ (.tup [V.str z, V.str z]) (m + 1) n5 E4 t4
  generalize upd H4 p5 (.tup [V.str z, V.str z]) = H5 at E5 t5 e5 g5
  have A5 := A4.same e5
  replace A5 := AlAll.cons (⟨_, .tup g5 (.cons (.str _) (.cons (.str _) .nil)), (Fit.tup (FitAll.cons fz (FitAll.cons fz (FitAll.nil (k := 0))))).mono (by decide) (by decide)⟩) A5
  refine ⟨_, rfl, by show 2 ≤ 2 ^ 24; decide, fun p6 n6 => ?_⟩
  obtain ⟨E6, t6, e6, g6⟩ := step _ _ (.tup [V.str z, V.str "b"]) (m + 1) n6 E5 t5
  generalize upd H5 p6 (.tup [V.str z, V.str "b"]) = H6 at E6 t6 e6 g6
  have A6 := A5.same e6
  replace A6 := AlAll.cons (⟨_, .tup g6 (.cons (.str _) (.cons (.str _) .nil)), (Fit.tup (FitAll.cons fz (FitAll.cons (S _ (by decide +kernel)) (FitAll.nil (k := 0))))).mono (by decide) (by decide)⟩) A6
  refine ⟨_, rfl, by show 2 ≤ 2 ^ 24; decide, fun p7 n7 => ?_⟩
  obtain ⟨E7, t7, e7, g7⟩ := step _ _ (.tup [V.str "aa", V.str z]) (m + 1) n7 E6 t6
  generalize upd H6 p7 (.tup [V.str "aa", V.str z]) = H7 at E7 t7 e7 g7
  have A7 := A6.same e7
  replace A7 := AlAll.cons (⟨_, .tup g7 (.cons (.str _) (.cons (.str _) .nil)), (Fit.tup (FitAll.cons (S _ (by decide +kernel)) (FitAll.cons fz (FitAll.nil (k := 0))))).mono (by decide) (by decide)⟩) A7
  refine ⟨by show 2 ≤ 2 ^ 24; decide, fun p8 n8 => ?_⟩
  obtain ⟨E8, t8, e8, g8⟩ := step _ _ (.tup [V.int 1, V.str "a"]) (m + 1) n8 E7 t7
  generalize upd H7 p8 (.tup [V.int 1, V.str "a"]) = H8 at E8 t8 e8 g8
  have A8 := A7.same e8
  replace A8 := AlAll.cons (⟨_, .tup g8 (.cons (.int _) (.cons (.str _) .nil)), (Fit.tup (FitAll.cons ((fit_int (n := 42) (k := 0) (by decide) (by decide)).mono (m := 42) (by decide) (Nat.le_refl _)) (FitAll.cons (S _ (by decide +kernel)) (FitAll.nil (k := 0))))).mono (by decide) (by decide)⟩) A8
  have Ba : AlAll K d c H8 [V.non, V.int 0, V.bl true, V.str "ab", V.ref p1, V.ref p2, V.ref p3, V.ref p4, V.ref p5, V.ref p6, V.ref p7, V.ref p8] := by
    unfold AlAll
    simp only [List.forall_mem_cons]
    exact ⟨⟨_, .non, fit_non (by decide)⟩, ⟨_, .int _, fit_int (by decide) (by decide)⟩, ⟨_, .bl _, fit_bl (by decide)⟩, ⟨_, .str _, fit_str (m := 20) (by decide +kernel) (by decide)⟩, A8 _ (by simp), A8 _ (by simp), A8 _ (by simp), A8 _ (by simp), A8 _ (by simp), A8 _ (by simp), A8 _ (by simp), A8 _ (by simp), fun _ h => nomatch h⟩
  refine ⟨by show 12 ≤ 2 ^ 24; decide, fun la nla => ?_⟩
  obtain ⟨E9, t9, e9, fa⟩ := step _ _ (.lst [V.non, V.int 0, V.bl true, V.str "ab", V.ref p1, V.ref p2, V.ref p3, V.ref p4, V.ref p5, V.ref p6, V.ref p7, V.ref p8]) (m + 1) nla E8 t8
  replace Ba := Ba.same e9
  have A9 := A8.same e9
  generalize upd H8 la (.lst [V.non, V.int 0, V.bl true, V.str "ab", V.ref p1, V.ref p2, V.ref p3, V.ref p4, V.ref p5, V.ref p6, V.ref p7, V.ref p8]) = H9 at E9 t9 e9 fa Ba A9 
  have wa : ([V.non, V.int 0, V.bl true, V.str "ab", V.ref p1, V.ref p2, V.ref p3, V.ref p4, V.ref p5, V.ref p6, V.ref p7, V.ref p8] : List V).length = 12 := rfl
  generalize [V.non, V.int 0, V.bl true, V.str "ab", V.ref p1, V.ref p2, V.ref p3, V.ref p4, V.ref p5, V.ref p6, V.ref p7, V.ref p8] = xa at fa Ba wa
  refine ⟨_, rfl, ?_⟩
  refine ⟨by show 2 ≤ 2 ^ 24; decide, fun p10 n10 => ?_⟩
  obtain ⟨E10, t10, e10, g10⟩ := step _ _ (.tup [V.str "a", V.non]) (m + 1) n10 E9 t9
  generalize upd H9 p10 (.tup [V.str "a", V.non]) = H10 at E10 t10 e10 g10
  replace fa := e10 _ _ fa
  have A10 := A9.same e10
  replace A10 := AlAll.cons (⟨_, .tup g10 (.cons (.str _) (.cons .non .nil)), (Fit.tup (FitAll.cons (S _ (by decide +kernel)) (FitAll.cons (fit_non (n := 40) (k := 0) (by decide)) (FitAll.nil (k := 0))))).mono (by decide) (by decide)⟩) A10
  refine ⟨by show 1 ≤ 2 ^ 24; decide, fun p11 n11 => ?_⟩
  obtain ⟨E11, t11, e11, g11⟩ := step _ _ (.tup [V.str "a"]) (m + 1) n11 E10 t10
  generalize upd H10 p11 (.tup [V.str "a"]) = H11 at E11 t11 e11 g11
  replace fa := e11 _ _ fa
  have A11 := A10.same e11
  refine ⟨by show 1 ≤ 2 ^ 24; decide, fun p12 n12 => ?_⟩
  obtain ⟨E12, t12, e12, g12⟩ := step _ _ (.tup [V.str "b"]) (m + 1) n12 E11 t11
  generalize upd H11 p12 (.tup [V.str "b"]) = H12 at E12 t12 e12 g12
  replace fa := e12 _ _ fa
  replace g11 := e12 _ _ g11
  have A12 := A11.same e12
  refine ⟨by show 2 ≤ 2 ^ 24; decide, fun p13 n13 => ?_⟩
  obtain ⟨E13, t13, e13, g13⟩ := step _ _ (.tup [V.ref p11, V.ref p12]) (m + 1) n13 E12 t12
  generalize upd H12 p13 (.tup [V.ref p11, V.ref p12]) = H13 at E13 t13 e13 g13
  replace fa := e13 _ _ fa
  replace g11 := e13 _ _ g11
  replace g12 := e13 _ _ g12
  have A13 := A12.same e13
  replace A13 := AlAll.cons (⟨_, .tup g13 (.cons (.tup g11 (.cons (.str _) .nil)) (.cons (.tup g12 (.cons (.str _) .nil)) .nil)), (Fit.tup (FitAll.cons (Fit.tup (FitAll.cons (S _ (by decide +kernel)) (FitAll.nil (k := 0)))) (FitAll.cons (Fit.tup (FitAll.cons (S _ (by decide +kernel)) (FitAll.nil (k := 0)))) FitAll.nil))).mono (by decide) (by decide)⟩) A13
  intro p14 n14
  obtain ⟨E14, t14, e14, g14⟩ := step _ _ (.dK []) (m + 1) n14 E13 t13
  generalize upd H13 p14 (.dK []) = H14 at E14 t14 e14 g14
  replace fa := e14 _ _ fa
  have A14 := A13.same e14
  replace A14 := AlAll.cons (⟨_, .dic g14, fit_dic (by decide) (by decide)⟩) A14
  refine ⟨by show 1 ≤ 2 ^ 24; decide, fun p15 n15 => ?_⟩
  obtain ⟨E15, t15, e15, g15⟩ := step _ _ (.lst [V.str "b"]) (m + 1) n15 E14 t14
  generalize upd H14 p15 (.lst [V.str "b"]) = H15 at E15 t15 e15 g15
  replace fa := e15 _ _ fa
  have A15 := A14.same e15
  refine ⟨by show 2 ≤ 2 ^ 24; decide, fun p16 n16 => ?_⟩
  obtain ⟨E16, t16, e16, g16⟩ := step _ _ (.tup [V.str "a", V.ref p15]) (m + 1) n16 E15 t15
  generalize upd H15 p16 (.tup [V.str "a", V.ref p15]) = H16 at E16 t16 e16 g16
  replace fa := e16 _ _ fa
  replace g15 := e16 _ _ g15
  have A16 := A15.same e16
  replace A16 := AlAll.cons (⟨_, .tup g16 (.cons (.str _) (.cons (.lst g15 (.cons (.str _) .nil)) .nil)), (Fit.tup (FitAll.cons ((S _ (by decide +kernel)).mono (Nat.le_refl _) (Nat.zero_le 1)) (FitAll.cons (Fit.lst (FitAll.cons (S _ (by decide +kernel)) (FitAll.nil (k := 0)))) FitAll.nil))).mono (by decide) (by decide)⟩) A16
  refine ⟨by show 2 ≤ 2 ^ 24; decide, fun p17 n17 => ?_⟩
  obtain ⟨E17, t17, e17, g17⟩ := step _ _ (.tup [V.str "d", V.str "c"]) (m + 1) n17 E16 t16
  generalize upd H16 p17 (.tup [V.str "d", V.str "c"]) = H17 at E17 t17 e17 g17
  replace fa := e17 _ _ fa
  have A17 := A16.same e17
  replace A17 := AlAll.cons (⟨_, .tup g17 (.cons (.str _) (.cons (.str _) .nil)), (Fit.tup (FitAll.cons (S _ (by decide +kernel)) (FitAll.cons (S _ (by decide +kernel)) (FitAll.nil (k := 0))))).mono (by decide) (by decide)⟩) A17
  refine ⟨by show 2 ≤ 2 ^ 24; decide, fun p18 n18 => ?_⟩
  obtain ⟨E18, t18, e18, g18⟩ := step _ _ (.tup [V.str "aad", V.str "aaa"]) (m + 1) n18 E17 t17
  generalize upd H17 p18 (.tup [V.str "aad", V.str "aaa"]) = H18 at E18 t18 e18 g18
  replace fa := e18 _ _ fa
  have A18 := A17.same e18
  replace A18 := AlAll.cons (⟨_, .tup g18 (.cons (.str _) (.cons (.str _) .nil)), (Fit.tup (FitAll.cons (S _ (by decide +kernel)) (FitAll.cons (S _ (by decide +kernel)) (FitAll.nil (k := 0))))).mono (by decide) (by decide)⟩) A18
  refine ⟨by show 2 ≤ 2 ^ 24; decide, fun p19 n19 => ?_⟩
  obtain ⟨E19, t19, e19, g19⟩ := step _ _ (.tup [V.str "a", V.bl true]) (m + 1) n19 E18 t18
  generalize upd H18 p19 (.tup [V.str "a", V.bl true]) = H19 at E19 t19 e19 g19
  replace fa := e19 _ _ fa
  have A19 := A18.same e19
  replace A19 := AlAll.cons (⟨_, .tup g19 (.cons (.str _) (.cons (.bl _) .nil)), (Fit.tup (FitAll.cons (S _ (by decide +kernel)) (FitAll.cons (fit_bl (n := 40) (k := 0) (by decide)) (FitAll.nil (k := 0))))).mono (by decide) (by decide)⟩) A19
  refine ⟨by show 0 ≤ 2 ^ 24; decide, fun p20 n20 => ?_⟩
  obtain ⟨E20, t20, e20, g20⟩ := step _ _ (.lst []) (m + 1) n20 E19 t19
  generalize upd H19 p20 (.lst []) = H20 at E20 t20 e20 g20
  replace fa := e20 _ _ fa
  have A20 := A19.same e20
  replace A20 := AlAll.cons (⟨_, .lst g20 .nil, (Fit.lst (FitAll.nil (k := 0))).mono (by decide) (by decide)⟩) A20
  replace Ba := Ba.same (e10.trans (e11.trans (e12.trans (e13.trans (e14.trans (e15.trans (e16.trans (e17.trans (e18.trans (e19.trans (e20)))))))))))
  have Bb : AlAll K d c H20 [V.ref p10, V.ref p13, V.ref p14, V.ref p16, V.ref p17, V.ref p18, V.ref p19, V.ref p20, V.str "a"] := by
    unfold AlAll
    simp only [List.forall_mem_cons]
    exact ⟨A20 _ (by simp), A20 _ (by simp), A20 _ (by simp), A20 _ (by simp), A20 _ (by simp), A20 _ (by simp), A20 _ (by simp), A20 _ (by simp), ⟨_, .str _, fit_str (m := 20) (by decide +kernel) (by decide)⟩, fun _ h => nomatch h⟩
  refine ⟨by show 9 ≤ 2 ^ 24; decide, fun lb nlb => ?_⟩
  obtain ⟨E21, t21, e21, fb⟩ := step _ _ (.lst [V.ref p10, V.ref p13, V.ref p14, V.ref p16, V.ref p17, V.ref p18, V.ref p19, V.ref p20, V.str "a"]) (m + 1) nlb E20 t20
  replace Bb := Bb.same e21
  replace fa := e21 _ _ fa
  have A21 := A20.same e21
  generalize upd H20 lb (.lst [V.ref p10, V.ref p13, V.ref p14, V.ref p16, V.ref p17, V.ref p18, V.ref p19, V.ref p20, V.str "a"]) = H21 at E21 t21 e21 fb Bb A21 fa
  replace Ba := Ba.same e21
  have wb : ([V.ref p10, V.ref p13, V.ref p14, V.ref p16, V.ref p17, V.ref p18, V.ref p19, V.ref p20, V.str "a"] : List V).length = 9 := rfl
  generalize [V.ref p10, V.ref p13, V.ref p14, V.ref p16, V.ref p17, V.ref p18, V.ref p19, V.ref p20, V.str "a"] = xb at fb Bb wb
  refine ⟨la, lb, _, _, rfl, rfl, hd_sub _ _ fa, hd_sub _ _ fb, by rw [wa, wb]; decide, fun lc nlc => ?_⟩
  obtain ⟨E22, t22, e22, fc⟩ := step _ _ (.lst (xa ++ xb)) (m + 1) nlc E21 t21
  have Bc := (Ba.app Bb).same e22
  have wc : (xa ++ xb).length = 21 := by rw [List.length_append, wa, wb]
  generalize upd H21 lc (.lst (xa ++ xb)) = H22 at E22 t22 e22 fc Bc
  generalize xa ++ xb = xc at fc Bc wc
  have A22 : AlAll K d c H22 [] := fun v hv => nomatch hv
  refine ⟨_, rfl, ?_⟩
  refine ⟨by show 2 ≤ 2 ^ 24; decide, fun p23 n23 => ?_⟩
  obtain ⟨E23, t23, e23, g23⟩ := step _ _ (.tup [V.str "ca", V.str "ac"]) (m + 1) n23 E22 t22
  generalize upd H22 p23 (.tup [V.str "ca", V.str "ac"]) = H23 at E23 t23 e23 g23
  replace fc := e23 _ _ fc
  have A23 := A22.same e23
  replace A23 := AlAll.cons (⟨_, .tup g23 (.cons (.str _) (.cons (.str _) .nil)), (Fit.tup (FitAll.cons (S _ (by decide +kernel)) (FitAll.cons (S _ (by decide +kernel)) (FitAll.nil (k := 0))))).mono (by decide) (by decide)⟩) A23
  refine ⟨by show 2 ≤ 2 ^ 24; decide, fun p24 n24 => ?_⟩
  obtain ⟨E24, t24, e24, g24⟩ := step _ _ (.tup [V.str "bb", V.str "ba"]) (m + 1) n24 E23 t23
  generalize upd H23 p24 (.tup [V.str "bb", V.str "ba"]) = H24 at E24 t24 e24 g24
  replace fc := e24 _ _ fc
  have A24 := A23.same e24
  replace A24 := AlAll.cons (⟨_, .tup g24 (.cons (.str _) (.cons (.str _) .nil)), (Fit.tup (FitAll.cons (S _ (by decide +kernel)) (FitAll.cons (S _ (by decide +kernel)) (FitAll.nil (k := 0))))).mono (by decide) (by decide)⟩) A24
  refine ⟨by show 2 ≤ 2 ^ 24; decide, fun p25 n25 => ?_⟩
  obtain ⟨E25, t25, e25, g25⟩ := step _ _ (.tup [V.str "aaa", V.str "bbb"]) (m + 1) n25 E24 t24
  generalize upd H24 p25 (.tup [V.str "aaa", V.str "bbb"]) = H25 at E25 t25 e25 g25
  replace fc := e25 _ _ fc
  have A25 := A24.same e25
  replace A25 := AlAll.cons (⟨_, .tup g25 (.cons (.str _) (.cons (.str _) .nil)), (Fit.tup (FitAll.cons (S _ (by decide +kernel)) (FitAll.cons (S _ (by decide +kernel)) (FitAll.nil (k := 0))))).mono (by decide) (by decide)⟩) A25
  refine ⟨_, rfl, by show 2 ≤ 2 ^ 24; decide, fun p26 n26 => ?_⟩
  obtain ⟨E26, t26, e26, g26⟩ := step _ _ (.tup [V.str z, V.str "abd"]) (m + 1) n26 E25 t25
  generalize upd H25 p26 (.tup [V.str z, V.str "abd"]) = H26 at E26 t26 e26 g26
  replace fc := e26 _ _ fc
  have A26 := A25.same e26
  replace A26 := AlAll.cons (⟨_, .tup g26 (.cons (.str _) (.cons (.str _) .nil)), (Fit.tup (FitAll.cons fz (FitAll.cons (S _ (by decide +kernel)) (FitAll.nil (k := 0))))).mono (by decide) (by decide)⟩) A26
  replace Bc := Bc.same (e23.trans (e24.trans (e25.trans (e26))))
  have Bd : AlAll K d c H26 [V.ref p23, V.ref p24, V.ref p25, V.ref p26] := by
    unfold AlAll
    simp only [List.forall_mem_cons]
    exact ⟨A26 _ (by simp), A26 _ (by simp), A26 _ (by simp), A26 _ (by simp), fun _ h => nomatch h⟩
  refine ⟨by show 4 ≤ 2 ^ 24; decide, fun ld nld => ?_⟩
  obtain ⟨E27, t27, e27, fd⟩ := step _ _ (.lst [V.ref p23, V.ref p24, V.ref p25, V.ref p26]) (m + 1) nld E26 t26
  replace Bd := Bd.same e27
  replace fc := e27 _ _ fc
  have A27 := A26.same e27
  generalize upd H26 ld (.lst [V.ref p23, V.ref p24, V.ref p25, V.ref p26]) = H27 at E27 t27 e27 fd Bd A27 fc
  replace Bc := Bc.same e27
  have wd : ([V.ref p23, V.ref p24, V.ref p25, V.ref p26] : List V).length = 4 := rfl
  generalize [V.ref p23, V.ref p24, V.ref p25, V.ref p26] = xd at fd Bd wd
  refine ⟨lc, ld, _, _, rfl, rfl, hd_sub _ _ fc, hd_sub _ _ fd, by rw [wc, wd]; decide, fun le nle => ?_⟩
  obtain ⟨E28, t28, e28, fe⟩ := step _ _ (.lst (xc ++ xd)) (m + 1) nle E27 t27
  have Be := (Bc.app Bd).same e28
  have we : (xc ++ xd).length = 25 := by rw [List.length_append, wc, wd]
  generalize upd H27 le (.lst (xc ++ xd)) = H28 at E28 t28 e28 fe Be
  generalize xc ++ xd = xe at fe Be we
  have A28 : AlAll K d c H28 [] := fun v hv => nomatch hv
  refine ⟨_, rfl, _, rfl, ?_⟩
  have RA2 : RuleAt (Hd d c H28) ra rs := RA.same t28
  obtain ⟨ts, h1, h2, h3⟩ := RA2.ex
  have six := R.len
  have hra := hd_sub _ _ h1
  refine ⟨_, rfl, ra, rfl, ⟨_, .inl (.inl hra)⟩, fun L nL => lc_tup (K := K) (a := ra) (xs := ts.map V.ref) (fun j G' => Same H28 G' ∧ ∃ us, G' L = some (.lst us) ∧ us.length = j ∧ ∀ v ∈ us, ∃ y, Dt K (Hr L (Hd d c G')) v y ∧ Fit 400 3 y)
    ⟨same_new nL _, [], upd_same, rfl, fun v h => nomatch h⟩ (fun j G' _ h => .inl (.inl (h.1 _ _ hra))) ?_ ?_⟩
  · rintro j x G' hx ⟨s8, us, v1, v2, v3⟩
    have jl : j < ts.length := by
      have := (List.getElem?_eq_some_iff.mp hx).1
      rw [List.length_map] at this
      exact this
    obtain ⟨p, hp⟩ : ∃ p, rs[j]? = some p := ⟨_, List.getElem?_eq_getElem (by omega)⟩
    obtain ⟨t, y1, y2⟩ := h3 j p hp
    rw [List.getElem?_map, y1] at hx
    cases hx
    obtain ⟨o1, o2, o3, o4, o5, o6⟩ := R.ok p (List.mem_of_getElem? hp)
    refine ⟨rfl, _, rfl, t, _, rfl, s8 _ _ (hd_sub _ _ y2), fun t' nt' => ?_⟩
    have s9 := same_new nt' (.tup [V.str (wS p.1), V.str (wS p.2)].reverse)
    have tL : t' ≠ L := fun e => by rw [e, v1] at nt'; cases nt'
    have D' := E28.same (s8.trans s9)
    have sX : Same (Hr L (Hd d c G')) (Hr L (Hd d c (upd (upd G' t' (.tup [V.str (wS p.1), V.str (wS p.2)].reverse)) L (.lst (us ++ [.ref t']))))) := (hr_same (hd_same s9)).trans hr_put
    refine ⟨us, s9 _ _ v1, by rw [v2]; show j < 2 ^ 24; omega, same_grow nL (s8.trans s9) _, us ++ [.ref t'], upd_same, by rw [List.length_append, v2]; rfl, ?_⟩
    intro v hv
    rcases List.mem_append.mp hv with hv | hv
    · obtain ⟨y, k1, k2⟩ := v3 v hv
      exact ⟨y, k1.same sX, k2⟩
    · rw [List.mem_singleton.mp hv]
      have gA : Hr L (Hd d c (upd (upd G' t' (.tup [V.str (wS p.1), V.str (wS p.2)].reverse)) L (.lst (us ++ [.ref t'])))) t' = some (.tup [V.str (wS p.2), V.str (wS p.1)]) := hr_put _ _ (hr_of (D'.tup upd_same) tL)
      exact ⟨_, .tup gA (.cons (.str _) (.cons (.str _) .nil)), (Fit.tup (FitAll.cons (fit_word (n := 40) (k := 0) (fun j hj => Nat.lt_of_lt_of_le (o6 j hj) k4) (by omega)) (FitAll.cons (fit_word (n := 40) (fun j hj => Nat.lt_of_lt_of_le (o5 j hj) k4) (by omega)) FitAll.nil))).mono (by decide) (by decide)⟩
  rintro B1 ⟨s8, xg, fg, wg, ag⟩
  rw [List.length_map] at wg
  have Bg : AlAll K d c B1 xg := fun v hv => let ⟨y, k1, k2⟩ := ag v hv; ⟨y, k1.same hr_sub, k2⟩
  have Da := E28.same s8
  have u1 : Same (Hd d c H) (Hd d c B1) := t28.trans (hd_same s8)
  have fe1 := s8 _ _ (hd_sub _ _ fe)
  refine ⟨le, L, _, _, rfl, rfl, fe1, fg, by rw [we, wg]; show 25 + ts.length ≤ 2 ^ 24; omega, fun lh nlh => ?_⟩
  have Bh := ((Be.same (hd_same s8)).app Bg).same (hd_new nlh (.lst (xe ++ xg)))
  have Dh := Da.new nlh (.lst (xe ++ xg))
  have u2 := u1.trans (hd_new nlh (.lst (xe ++ xg)))
  have fh : upd B1 lh (.lst (xe ++ xg)) lh = some (.lst (xe ++ xg)) := upd_same
  have hra2 := same_new nlh (.lst (xe ++ xg)) _ _ (s8 _ _ hra)
  have wh : (xe ++ xg).length = 25 + ts.length := by rw [List.length_append, we, wg]
  have h3' : ∀ (i : Nat) (p : Pr), rs[i]? = some p → ∃ t : Addr, ts[i]? = some t ∧ upd B1 lh (.lst (xe ++ xg)) t = some (.tup [.str (wS p.1), .str (wS p.2)]) := fun i p hp => let ⟨t, y1, y2⟩ := h3 i p hp; ⟨t, y1, same_new nlh _ _ _ (s8 _ _ (hd_sub _ _ y2))⟩
  generalize upd B1 lh (.lst (xe ++ xg)) = B2 at Bh Dh u2 fh hra2 h3'
  generalize xe ++ xg = xh at Bh fh wh
  refine ⟨_, rfl, ra, rfl, ⟨_, .inl (.inl hra2)⟩, fun L2 nL2 => lc_tup (K := K) (a := ra) (xs := ts.map V.ref) (fun j G' => Same B2 G' ∧ ∃ us, G' L2 = some (.lst us) ∧ us.length = j ∧ ∀ v ∈ us, ∃ y, Dt K (Hr L2 (Hd d c G')) v y ∧ Fit 400 3 y)
    ⟨same_new nL2 _, [], upd_same, rfl, fun v h => nomatch h⟩ (fun j G' _ h => .inl (.inl (h.1 _ _ hra2))) ?_ ?_⟩
  · rintro j x G' hx ⟨s8, us, v1, v2, v3⟩
    have jl : j < ts.length := by
      have := (List.getElem?_eq_some_iff.mp hx).1
      rw [List.length_map] at this
      exact this
    obtain ⟨p, hp⟩ : ∃ p, rs[j]? = some p := ⟨_, List.getElem?_eq_getElem (by omega)⟩
    obtain ⟨t, y1, y2⟩ := h3' j p hp
    rw [List.getElem?_map, y1] at hx
    cases hx
    obtain ⟨o1, o2, o3, o4, o5, o6⟩ := R.ok p (List.mem_of_getElem? hp)
    have y3 := s8 _ _ y2
    refine ⟨rfl, _, rfl, t, _, 0, _, rfl, rfl, .inl (.inl y3), rfl, _, rfl, t, _, 0, _, rfl, rfl, .inl (.inl y3), rfl, wS p.1, rfl, by rw [wS_len]; show _ ≤ 2 ^ 24; omega, ?_⟩
    refine ⟨_, rfl, _, rfl, by decide, by show 2 ≤ 2 ^ 24; decide, fun t' nt' => ?_⟩
    have s9 := same_new nt' (.tup [V.str (wS p.1), V.str (cutS ("aba" : Str) none (some (((wS p.1).length : Nat) : Int)))])
    have tL : t' ≠ L2 := fun e => by rw [e, v1] at nt'; cases nt'
    have D' := Dh.same (s8.trans s9)
    have fc := cut_aba (wS p.1).length (by rw [wS_len]; exact o1) (by rw [wS_len]; exact o2)
    have sX : Same (Hr L2 (Hd d c G')) (Hr L2 (Hd d c (upd (upd G' t' (.tup [V.str (wS p.1), V.str (cutS ("aba" : Str) none (some (((wS p.1).length : Nat) : Int)))])) L2 (.lst (us ++ [.ref t']))))) := (hr_same (hd_same s9)).trans hr_put
    refine ⟨us, s9 _ _ v1, by rw [v2]; show j < 2 ^ 24; omega, same_grow nL2 (s8.trans s9) _, us ++ [.ref t'], upd_same, by rw [List.length_append, v2]; rfl, ?_⟩
    intro v hv
    rcases List.mem_append.mp hv with hv | hv
    · obtain ⟨y, k1, k2⟩ := v3 v hv
      exact ⟨y, k1.same sX, k2⟩
    · rw [List.mem_singleton.mp hv]
      have gA : Hr L2 (Hd d c (upd (upd G' t' (.tup [V.str (wS p.1), V.str (cutS ("aba" : Str) none (some (((wS p.1).length : Nat) : Int)))])) L2 (.lst (us ++ [.ref t'])))) t' = some (.tup [V.str (wS p.1), V.str (cutS ("aba" : Str) none (some (((wS p.1).length : Nat) : Int)))]) := hr_put _ _ (hr_of (D'.tup upd_same) tL)
      exact ⟨_, .tup gA (.cons (.str _) (.cons (.str _) .nil)), (Fit.tup (FitAll.cons (fit_word (n := 40) (k := 0) (fun j hj => Nat.lt_of_lt_of_le (o5 j hj) k4) (by omega)) (FitAll.cons fc FitAll.nil))).mono (by decide) (by decide)⟩
  rintro B3 ⟨s8, xi, fi, wi, ai⟩
  rw [List.length_map] at wi
  have Bi : AlAll K d c B3 xi := fun v hv => let ⟨y, k1, k2⟩ := ai v hv; ⟨y, k1.same hr_sub, k2⟩
  have Di := Dh.same s8
  have u3 := u2.trans (hd_same s8)
  refine ⟨lh, L2, _, _, rfl, rfl, s8 _ _ fh, fi, by rw [wh, wi]; show 25 + ts.length + ts.length ≤ 2 ^ 24; omega, fun lj nlj => ?_⟩
  have Bj := ((Bh.same (hd_same s8)).app Bi).same (hd_new nlj (.lst (xh ++ xi)))
  have Dj := Di.new nlj (.lst (xh ++ xi))
  have u4 := u3.trans (hd_new nlj (.lst (xh ++ xi)))
  have fj : Hd d c (upd B3 lj (.lst (xh ++ xi))) lj = some (.lst (xh ++ xi)) := hd_of upd_same (Di.free nlj).1 (Di.free nlj).2
  have wj : (xh ++ xi).length = 25 + ts.length + ts.length := by rw [List.length_append, wh, wi]
  exact ⟨d, c, lj, _, _, rfl, Dj, by omega, fj, by omega, by omega, fun v G hv DG sG => q v G ((Bj v hv).same sG) DG (u4.trans sG)⟩
end
end K27
namespace K27
open PySem L2 GL KC GZ KW KR KX
theorem walk_lt {l : Nat} : ∀ (ds : List PyData) (i : Nat) (tk : List Str) (j : Nat), KX.walkE l i tk ds = some j → j < i + ds.length
  | [], i, tk, j, h => by unfold KX.walkE at h; cases h
  | d :: ds, i, tk, j, h => by
    unfold KX.walkE at h
    rw [List.length_cons]
    cases e : pairD l d with
    | none =>
      rw [e] at h
      simp only [Option.some.injEq] at h
      omega
    | some ab =>
      obtain ⟨x, y⟩ := ab
      rw [e] at h
      simp only at h
      split at h
      · simp only [Option.some.injEq] at h
        omega
      · have := walk_lt ds (i + 1) _ j h
        omega
theorem errD_fit {l : Nat} {d : PyData} (h : Small d) : Fit 100 1 (errD l d) := by
  unfold errD
  split
  · rename_i ds
    split
    · rename_i i e
      have il := walk_lt ds 0 [] i e
      have dl := h.len
      have ii : ((i : Nat) : Int).natAbs < 10 ^ 41 := Nat.lt_of_lt_of_le (show i < 1000001 by omega) (by decide +kernel)
      exact (Fit.tup (FitAll.cons (fit_int (n := 42) (k := 0) ii (by decide)) (FitAll.cons (fit_str (n := 20) (m := 20) (by decide +kernel) (by decide)) FitAll.nil))).mono (by decide) (by decide)
    · split
      · exact (Fit.tup (FitAll.cons (fit_non (n := 5) (k := 0) (by decide)) (FitAll.cons (fit_str (n := 20) (m := 20) (by decide +kernel) (by decide)) FitAll.nil))).mono (by decide) (by decide)
      · exact fit_non (by decide)
  · exact (Fit.tup (FitAll.cons (fit_non (n := 5) (k := 0) (by decide)) (FitAll.cons (fit_str (n := 20) (m := 20) (by decide +kernel) (by decide)) FitAll.nil))).mono (by decide) (by decide)
theorem shown_le {K : PySem.W.Frag} {H : Hp} {d : PyData} {v : V} {n k : Nat} (h : Dt K H v d) (f : Fit n k d) (hn : n ≤ 1000000) : d.shown.length ≤ sizeLine := by
  have a := shown_wt d v h
  have b := f.w
  show _ ≤ 2 ^ 24
  omega
def spRight (K : PySem.W.Frag) : Sp := fun vs H Q _ => ∃ (l : Nat) (v : V) (d : PyData), vs = [.int l, v] ∧ Dt K H v d ∧ Fit 1000000 20 d ∧ 1 ≤ l ∧ l ≤ 4 ∧ ∀ G, Same H G → Q (.bl true) G
section
variable {P : Program} {w : World} {K : PySem.W.Frag} {mg : Str → Option Value} {base : Heap}
theorem scRt : FnScope ["_law_letters", "_law_value", "_law_told"] ["_law_letters", "_law_value"] (defScope sRight) := ⟨rfl, rfl, rfl, by decide +kernel, rfl, by decide +kernel, by decide +kernel⟩
theorem ok_right {f fM fL : Addr} {fd fdM fdL : FuncData} (F : Fun K "_law_right" "_law_right" sRight f fd) (T : Txt mg) (M : Dfn P w K mg base "rule_error" 3 fM fdM ["letters", "value"] (spRErr K))
    (E' : Dfn P w K mg base "_law_error" 2 fL fdL ["_law_letters", "_law_value"] (spRErr K)) : Fg P w K mg base CX0 4 f fd ["_law_letters", "_law_value"] (spRight K) := by
  refine ok_g F scRt (fun vs H Q E h => ?_) (fun cdv A outer s H vs Q E hg hr h => ?_)
  · obtain ⟨l, v, d, rfl, _⟩ := h
    rfl
  obtain ⟨l, v, d, rfl, hd, hf, l1, l4, q⟩ := h
  have hr2 : Room 2 _ := hr.mono (by decide)
  refine ⟨_, pss_cons (ps_set (i := 2) scRt.nd rfl (Or.inl rfl) (pe_callB (call_reprD hg hr.units) (by rfl) T.repr (by decide +kernel) (pa_cons (pv 1) pa_nil)))
    (pss_one (ps_ret (pe_and (pe_cmpR op_eq (pe_callB (call_reprD hg hr.units) (by rfl) T.repr (by decide +kernel) (pa_cons (pe_call M.ok hr rfl M.m M.kp M.b .nil pass0 (pa_cons (pv 0) (pa_cons (pv 1) pa_nil))) pa_nil))
        (pe_callB (call_reprD hg hr.units) (by rfl) T.repr (by decide +kernel) (pa_cons (pe_call E'.ok hr2 rfl E'.m E'.kp E'.b .nil pass0 (pa_cons (pv 0) (pa_cons (pv 1) pa_nil))) pa_nil)) (nomark _))
      (pe_one (pe_cmpR op_eq (pe_callB (call_reprD hg hr.units) (by rfl) T.repr (by decide +kernel) (pa_cons (pv 1) pa_nil)) (pv 2) (nomark _)))))), ?_⟩
  have sz := shown_le (K := K) hd hf (Nat.le_refl _)
  have dk : d.depth ≤ 60 := Nat.le_trans hf.k (by decide)
  have fe := errD_fit (l := l) hf.w
  refine ⟨_, rfl, _, _, rfl, hd, hf.s, dk, sz, ?_⟩
  refine ⟨_, rfl, _, rfl, l, v, d, rfl, hd, hf.w, l1, l4, fun v1 G1 s1 x1 => ?_⟩
  refine ⟨_, _, rfl, x1, fe.s, Nat.le_trans fe.k (by decide), shown_le (K := K) x1 fe (by decide), _, rfl, _, rfl, l, v, d, rfl, hd.same s1, hf.w, l1, l4, fun v2 G2 s2 x2 => ?_⟩
  refine ⟨_, _, rfl, x2, fe.s, Nat.le_trans fe.k (by decide), shown_le (K := K) x2 fe (by decide), rfl, _, rfl, ?_⟩
  refine ite2 (fun _ => ?_) (fun c => absurd (decide_eq_true rfl) c)
  refine ⟨_, rfl, _, _, rfl, (hd.same s1).same s2, hf.s, dk, sz, _, rfl, rfl, ?_⟩
  have e : decide (V.str d.shown = V.str d.shown) = true := decide_eq_true rfl
  show Q (.bl (decide (V.str d.shown = V.str d.shown))) G2
  rw [e]
  exact q G2 (s1.trans s2)
end
end K27
namespace K27
open PySem L2 GL KC GZ KW KR KX
def spLaw (K : PySem.W.Frag) : Sp := fun vs H Q _ => ∃ (a : Addr) (ns : List Int), vs = [.ref a] ∧ SqL K H a (ns.map V.int) ∧ ns.length ≤ 63 ∧ ∀ H', Q (.bl true) H'
/-- a def promised where no guard of repr stands -/
structure Gfn (P : Program) (w : World) (K : PySem.W.Frag) (mg : Str → Option Value) (base : Heap) (name : Str) (k : Nat) (f : Addr) (fd : FuncData) (ps : List Str) (sp : Sp) : Prop where
  ok : Fg P w K mg base CX0 k f fd ps sp
  b : L2.Binds K fd ps []
  m : mg name = some (.ref f)
  kp : PySem.W.keepIn K (.ref f) = true
/-- a value to ask of -/
def Gd (K : PySem.W.Frag) (d c : Addr) (G : Hp) (v : V) : Prop := ∃ x, Dt K (Hd d c G) v x ∧ Fit 100000 12 x
theorem Gd.same {K : PySem.W.Frag} {d c : Addr} {G G' : Hp} {v : V} (h : Gd K d c G v) (s : Same (Hd d c G) (Hd d c G')) : Gd K d c G' v := let ⟨x, h1, h2⟩ := h; ⟨x, h1.same s, h2⟩
theorem Al.gd {K : PySem.W.Frag} {d c : Addr} {G : Hp} {v : V} (h : Al K d c G v) : Gd K d c G v := let ⟨x, h1, h2⟩ := h; ⟨x, h1, h2.mono (by decide) (by decide)⟩
def GdAll (K : PySem.W.Frag) (d c : Addr) (G : Hp) (vs : List V) : Prop := ∀ v ∈ vs, Gd K d c G v
theorem GdAll.same {K : PySem.W.Frag} {d c : Addr} {G G' : Hp} {vs : List V} (h : GdAll K d c G vs) (s : Same (Hd d c G) (Hd d c G')) : GdAll K d c G' vs := fun v hv => (h v hv).same s
theorem GdAll.app {K : PySem.W.Frag} {d c : Addr} {G : Hp} {vs us : List V} (a : GdAll K d c G vs) (h : GdAll K d c G us) : GdAll K d c G (vs ++ us) := fun u hu => by
  rcases List.mem_append.mp hu with hu | hu
  · exact a u hu
  · exact h u hu
/-- a tuple of data -/
def TA (K : PySem.W.Frag) (d c : Addr) (G : Hp) (p : Addr) (xs : List V) (n : Nat) : Prop := Hd d c G p = some (.tup xs) ∧ xs.length ≤ n ∧ ∃ ds, DtAll K (Hd d c G) xs ds ∧ FitAll (500 * n) 6 ds
section
variable {K : PySem.W.Frag} {d c p b : Addr} {G G' : Hp} {xs ys : List V} {n k m : Nat}
theorem TA.same (h : TA K d c G p xs n) (s : Same (Hd d c G) (Hd d c G')) : TA K d c G' p xs n := let ⟨h1, h2, ds, h3, h4⟩ := h; ⟨s _ _ h1, h2, ds, h3.same s, h4⟩
theorem TA.at_ (h : TA K d c G p xs n) : G p = some (.tup xs) := hd_sub _ _ h.1
theorem TA.cut {lo hi : Option Int} (h : TA K d c G p xs n) (D : Deck G' d c m) (s : Same G G') (g : G' b = some (.tup (cutV xs lo hi))) : TA K d c G' b (cutV xs lo hi) n :=
  let ⟨_, h2, _, h3, h4⟩ := h
  let ⟨es, x, y⟩ := cut_dt lo hi h3
  ⟨D.tup g, Nat.le_trans (cutV_length xs lo hi) h2, es, x.same (hd_same s), y _ _ h4⟩
theorem TA.cat {q : Addr} (h : TA K d c G p xs n) (h' : TA K d c G q ys k) (D : Deck G' d c m) (s : Same G G') (g : G' b = some (.tup (xs ++ ys))) : TA K d c G' b (xs ++ ys) (n + k) := by
  obtain ⟨_, h2, ds, h3, h4⟩ := h
  obtain ⟨_, k2, es, k3, k4⟩ := h'
  exact ⟨D.tup g, by rw [List.length_append]; omega, ds ++ es, (h3.append k3).same (hd_same s), (h4.append k4).mono (by omega) (Nat.le_refl _)⟩
theorem TA.one {v : V} (a : Al K d c G v) (np : G p = none) (D : Deck G d c m) : TA K d c (upd G p (.tup [v])) p [v] 1 :=
  let ⟨_, h1, h2⟩ := a
  ⟨hd_of upd_same (D.free np).1 (D.free np).2, Nat.le_refl _, _, .cons (h1.same (hd_new np _)) .nil, (FitAll.cons h2 FitAll.nil).mono (by decide) (by decide)⟩
theorem TA.rev (h : TA K d c G p xs n) (np : G b = none) (D : Deck G d c m) : TA K d c (upd G b (.tup xs.reverse)) b xs.reverse n := by
  obtain ⟨_, h2, ds, h3, h4⟩ := h
  have rv : ∀ {ds : List PyData} {vs : List V}, DtAll K (Hd d c G) vs ds → DtAll K (Hd d c G) vs.reverse ds.reverse := by
    intro ds
    induction ds with
    | nil => intro vs h; cases h; exact .nil
    | cons e es ih =>
      intro vs h
      cases h with
      | cons a b =>
        rw [List.reverse_cons, List.reverse_cons]
        exact (ih b).append (.cons a .nil)
  have fr : ∀ {ds : List PyData} {n : Nat}, FitAll n 6 ds → FitAll n 6 ds.reverse := by
    intro ds
    induction ds with
    | nil => intro n h; exact h
    | cons e es ih =>
      intro n a
      have w := a.w
      have kk := a.k
      have ss := a.s
      simp only [wts] at w
      simp only [PyData.depthAll] at kk
      simp only [PyData.showableAll, Bool.and_eq_true] at ss
      have r : FitAll (wts es) 6 es.reverse := ih ⟨Nat.le_refl _, Nat.le_trans (Nat.le_max_right _ _) kk, ss.2⟩
      rw [List.reverse_cons]
      exact (r.append (FitAll.cons (n := wt e) ⟨Nat.le_refl _, Nat.le_trans (Nat.le_max_left _ _) kk, ss.1⟩ FitAll.nil)).mono (by omega) (Nat.le_refl _)
  exact ⟨hd_of upd_same (D.free np).1 (D.free np).2, by rw [List.length_reverse]; exact h2, _, (rv h3).same (hd_new np _), fr h4⟩
theorem TA.seven {v : V} (h : TA K d c G p [v] 1) (np : G b = none) (D : Deck G d c m) : TA K d c (upd G b (.tup (List.replicate 7 [v]).flatten)) b (List.replicate 7 [v]).flatten 7 := by
  obtain ⟨_, h2, ds, h3, h4⟩ := h
  have e : (List.replicate 7 [v]).flatten = [v] ++ ([v] ++ ([v] ++ ([v] ++ ([v] ++ ([v] ++ [v]))))) := rfl
  rw [e]
  have x := h3.append (h3.append (h3.append (h3.append (h3.append (h3.append h3)))))
  have y := h4.append (h4.append (h4.append (h4.append (h4.append (h4.append h4)))))
  exact ⟨hd_of upd_same (D.free np).1 (D.free np).2, Nat.le_refl 7, _, x.same (hd_new np _), y.mono (by decide) (Nat.le_refl _)⟩
theorem TA.gd (h : TA K d c G p xs n) (hn : n ≤ 100) : Gd K d c G (.ref p) := let ⟨h1, _, _, h3, h4⟩ := h; ⟨_, .tup h1 h3, (Fit.tup h4).mono (by omega) (by decide)⟩
theorem TA.gl {l : Addr} (h : TA K d c G p xs n) (hn : n ≤ 100) (np : G l = none) (D : Deck G d c m) : Gd K d c (upd G l (.lst xs)) (.ref l) := let ⟨_, _, _, h3, h4⟩ := h; ⟨_, .lst (hd_of upd_same (D.free np).1 (D.free np).2) (h3.same (hd_new np _)), (Fit.lst h4).mono (by omega) (by decide)⟩
theorem Gd.tup1 {v : V} (h : ∃ x, Dt K (Hd d c G) v x ∧ Fit 90000 10 x) (np : G p = none) (D : Deck G d c m) : Gd K d c (upd G p (.tup [v])) (.ref p) := let ⟨_, h1, h2⟩ := h; ⟨_, .tup (hd_of upd_same (D.free np).1 (D.free np).2) (.cons (h1.same (hd_new np _)) .nil), (Fit.tup (FitAll.cons h2 FitAll.nil)).mono (by decide) (by decide)⟩
theorem TA.fit (h : TA K d c G p xs n) (hn : n ≤ 100) : ∃ x, Dt K (Hd d c G) (.ref p) x ∧ Fit 90000 10 x := let ⟨h1, _, _, h3, h4⟩ := h; ⟨_, .tup h1 h3, (Fit.tup h4).mono (by omega) (by decide)⟩
theorem Gd.nil (np : G p = none) (D : Deck G d c m) : Gd K d c (upd G p (.tup [])) (.ref p) := ⟨_, .tup (hd_of upd_same (D.free np).1 (D.free np).2) .nil, (Fit.tup (FitAll.nil (k := 0))).mono (by decide) (by decide)⟩
theorem rule_ta {l : Nat} {rs : List Pr} (RA : RuleAt (Hd d c G) p rs) (R : Rul l rs) (l4 : l ≤ 4) : ∃ xs, TA K d c G p xs 6 ∧ xs.length = rs.length := by
  obtain ⟨ts, h1, h2, h3⟩ := RA.ex
  have f := (R.fit l4).all.1
  exact ⟨_, ⟨h1, by rw [List.length_map, h2]; exact R.len, _, pairs_dt h2 h3, f.mono (by decide) (by decide)⟩, by rw [List.length_map, h2]⟩
end
def pr2 (x y : Str) : PyData := .tuple [.str x, .str y]
def sixD : PyData := .tuple [pr2 "a" "b", pr2 "c" "d", pr2 "aa" "bb", pr2 "ab" "ba", pr2 "ac" "ca", pr2 "aaa" "bbb"]
section
variable {P : Program} {w : World} {K : PySem.W.Frag} {mg : Str → Option Value} {base : Heap}
theorem scL : FnScope ["_law_script", "_law_deck_here", "_law_six", "_law_more", "_law_many", "_law_known", "_law_value", "_law_turn", "_law_letters", "_law_rule_here", "_law_at", "_law_bad", "_law_values"] ["_law_script"] (defScope sLaw) := ⟨rfl, rfl, rfl, by decide +kernel, rfl, by decide +kernel, by decide +kernel⟩
theorem ok_law {f fK fW fU fO fR fE : Addr} {fd fdK fdW fdU fdO fdR fdE : FuncData} (F : Fun K "law" "law" sLaw f fd) (T : Txt mg)
    (DK : Dfn P w K mg base "_law_deck" 1 fK fdK ["_law_script"] (spDeck K)) (W : Dfn P w K mg base "_law_draw" 1 fW fdW ["_law_deck_here", "_law_many"] spDraw)
    (RU : Dfn P w K mg base "_law_rule" 3 fU fdU ["_law_deck_here", "_law_letters"] spRule) (OD : Dfn P w K mg base "_law_odd_pair" 3 fO fdO ["_law_deck_here", "_law_letters", "_law_rule_here"] (spOddP K))
    (R : Gfn P w K mg base "_law_right" 4 fR fdR ["_law_letters", "_law_value"] (spRight K)) (ME : Dfn P w K mg base "rule_error" 3 fE fdE ["letters", "value"] (spRErr K)) : Fg P w K mg base CX0 5 f fd ["_law_script"] (spLaw K) := by
  refine ok_g F scL (fun vs H Q E h => ?_) (fun cdv A outer s H vs Q E hg hr h => ?_)
  · obtain ⟨a, ns, rfl, _⟩ := h
    rfl
  obtain ⟨a, ns, rfl, hS, hl, q⟩ := h
  have hr1 : Room 1 _ := hr.mono (by decide)
  have hr3 : Room 3 _ := hr.mono (by decide)
  refine ⟨_, (pss_cons (ps_set (i := 1) scL.nd rfl (Or.inl rfl) (pe_call DK.ok hr1 rfl DK.m DK.kp DK.b .nil pass0 (pa_cons (pv 0) pa_nil)))
      (pss_cons (ps_set (i := 2) scL.nd rfl (Or.inl rfl) (pe_tup (pa_cons (pe_tup (pa_cons pe_str (pa_cons pe_str pa_nil))) (pa_cons (pe_tup (pa_cons pe_str (pa_cons pe_str pa_nil))) (pa_cons (pe_tup (pa_cons pe_str (pa_cons pe_str pa_nil))) (pa_cons (pe_tup (pa_cons pe_str (pa_cons pe_str pa_nil))) (pa_cons (pe_tup (pa_cons pe_str (pa_cons pe_str pa_nil))) (pa_cons (pe_tup (pa_cons pe_str (pa_cons pe_str pa_nil))) pa_nil))))))))
      (pss_cons (ps_set (i := 3) scL.nd rfl (Or.inl rfl) (pe_tup (pa_cons (pe_tup (pa_cons pe_str (pa_cons pe_str pa_nil))) (pa_cons (pe_tup (pa_cons pe_str (pa_cons pe_str pa_nil))) (pa_cons (pe_tup (pa_cons pe_str (pa_cons pe_str pa_nil))) pa_nil)))))
      (pss_cons (ps_for PassesOwn.never rfl (pi_range1 rfl T.c.range (pa_cons pe_int pa_nil)) (pg_name (i := 4) scL.nd rfl (Or.inl rfl)) (pss_one (ps_for PassesOwn.never rfl (pi_list (pe_lst (pa_cons (pe_tup (pa_cons pe_int (pa_cons (pe_op op_catD (pv 2) (pe_slice sl_tupD (pv 3) po_none (po_some (pv 4)))) pa_nil))) (pa_cons (pe_tup (pa_cons pe_int (pa_cons (pe_op op_catD (pv 2) (pe_slice sl_tupD (pv 3) po_none (po_some (pv 4)))) pa_nil))) (pa_cons (pe_tup (pa_cons pe_int (pa_cons (pe_slice sl_tupD (pv 3) po_none (po_some (pv 4))) pa_nil))) pa_nil))))) (pg_tup (by rfl) (pgs_cons (pg_name (i := 5) scL.nd rfl (Or.inl rfl)) (pgs_cons (pg_name (i := 6) scL.nd rfl (Or.inl rfl)) pgs_nil))) (pss_one (ps_if (pt_not (pt_val (pe_callg hg R.ok hr rfl R.m R.kp R.b pass0 (pa_cons (pv 5) (pa_cons (pv 6) pa_nil))))) (pss_one (ps_ret pe_bl)) pss_nil)))))
      (pss_cons (ps_for PassesOwn.never rfl (pi_range1 rfl T.c.range (pa_cons pe_int pa_nil)) (pg_name (i := 7) scL.nd rfl (Or.inl rfl)) (pss_cons (ps_set (i := 8) scL.nd rfl (Or.inl rfl) (pe_op op_add pe_int (pe_call W.ok hr1 rfl W.m W.kp W.b .nil pass0 (pa_cons (pv 1) (pa_cons pe_int pa_nil)))))
      (pss_cons (ps_set (i := 9) scL.nd rfl (Or.inl rfl) (pe_call RU.ok hr3 rfl RU.m RU.kp RU.b .nil pass0 (pa_cons (pv 1) (pa_cons (pv 8) pa_nil))))
      (pss_cons (ps_par (i := 10) (j := 11) (by rfl) scL.nd rfl rfl (by decide) rfl rfl (pa_cons (pe_call W.ok hr1 rfl W.m W.kp W.b .nil pass0 (pa_cons (pv 1) (pa_cons (pe_op op_add (pe_callB call_len_seq (by rfl) T.c.len PySem.boot_len (pa_cons (pv 9) pa_nil)) pe_int) pa_nil))) (pa_cons (pe_call OD.ok hr3 rfl OD.m OD.kp OD.b .nil pass0 (pa_cons (pv 1) (pa_cons (pv 8) (pa_cons (pv 9) pa_nil)))) pa_nil)) (by rfl))
      (pss_cons (ps_set (i := 12) scL.nd rfl (Or.inl rfl) (pe_lst (pa_cons (pv 9) (pa_cons (pe_callTy call_list_of (by rfl) T.list (by decide +kernel) (pa_cons (pv 9) pa_nil)) (pa_cons (pe_op op_catD (pv 9) (pe_slice sl_tupD (pv 9) po_none (po_some pe_int))) (pa_cons (pe_op op_catD (pe_op op_catD (pe_slice sl_tupD (pv 9) po_none (po_some (pv 10))) (pe_tup (pa_cons (pv 11) pa_nil))) (pe_slice sl_tupD (pv 9) (po_some (pv 10)) po_none)) (pa_cons (pe_op op_catD (pe_op op_catD (pe_slice sl_tupD (pv 9) po_none (po_some (pv 10))) (pe_tup (pa_cons (pv 11) pa_nil))) (pe_slice sl_tupD (pv 9) (po_some (pe_op op_add (pv 10) pe_int)) po_none)) pa_nil)))))))
      (pss_cons (ps_set (i := 12) scL.nd rfl (Or.inl rfl) (pe_op op_cat (pv 12) (pe_lst (pa_cons (pe_tup (pa_cons (pv 11) pa_nil)) (pa_cons (pv 11) (pa_cons (pe_op op_catD (pv 9) (pe_op op_repT (pe_tup (pa_cons (pv 11) pa_nil)) pe_int)) (pa_cons (pe_op op_catD (pe_op op_catD (pe_slice sl_tupD (pv 2) po_none (po_some (pv 10))) (pe_tup (pa_cons (pv 11) pa_nil))) (pe_slice sl_tupD (pv 2) (po_some (pv 10)) po_none)) (pa_cons (pe_tup (pa_cons (pv 9) pa_nil)) (pa_cons (pe_revT (pv 9)) (pa_cons (pe_tup pa_nil) pa_nil))))))))))
      (pss_one (ps_for PassesOwn.never rfl (pi_list (pv 12)) (pg_name (i := 6) scL.nd rfl (Or.inl rfl)) (pss_one (ps_for PassesOwn.never rfl (pi_list (pe_lst (pa_cons (pv 8) (pa_cons pe_int (pa_cons pe_int pa_nil))))) (pg_name (i := 5) scL.nd rfl (Or.inl rfl)) (pss_one (ps_if (pt_not (pt_val (pe_callg hg R.ok hr rfl R.m R.kp R.b pass0 (pa_cons (pv 5) (pa_cons (pv 6) pa_nil))))) (pss_one (ps_ret pe_bl)) pss_nil))))))))))))
      (pss_one (ps_ret (pe_cmpR op_eq (pe_callB (call_reprD hg hr.units) (by rfl) T.repr (by decide +kernel) (pa_cons (pe_lst (pa_cons (pe_call ME.ok hr3 rfl ME.m ME.kp ME.b .nil pass0 (pa_cons pe_int (pa_cons (pv 2) pa_nil))) (pa_cons (pe_call ME.ok hr3 rfl ME.m ME.kp ME.b .nil pass0 (pa_cons pe_int (pa_cons pe_non pa_nil))) pa_nil))) pa_nil)) pe_str (nomark _))))))))), ?_⟩
  refine ⟨_, rfl, a, ns, rfl, hS, hl, fun d c G0 s0 nd nc D0 => ?_⟩
  have step : ∀ (G : Hp) (p : Addr) (o : HO) (j : Nat), G p = none → Deck G d c j → Deck (upd G p o) d c j ∧ Same (Hd d c G) (Hd d c (upd G p o)) ∧ Hd d c (upd G p o) p = some o := fun G p o j n DG =>
    ⟨DG.new n o, hd_new n o, hd_of upd_same (DG.free n).1 (DG.free n).2⟩
  have S : ∀ x : Str, (PyData.str x).shown.length ≤ 20 → Fit 20 0 (.str x) := fun x h => fit_str (m := 20) h (by decide)
  refine ⟨by show 2 ≤ 2 ^ 24; decide, fun p1 n1 => ?_⟩
  obtain ⟨E1, e1, g1⟩ := step _ _ (.tup [V.str "a", V.str "b"]) 0 n1 D0
  generalize upd G0 p1 (.tup [V.str "a", V.str "b"]) = H1 at E1 e1 g1
  refine ⟨by show 2 ≤ 2 ^ 24; decide, fun p2 n2 => ?_⟩
  obtain ⟨E2, e2, g2⟩ := step _ _ (.tup [V.str "c", V.str "d"]) 0 n2 E1
  generalize upd H1 p2 (.tup [V.str "c", V.str "d"]) = H2 at E2 e2 g2
  replace g1 := e2 _ _ g1
  refine ⟨by show 2 ≤ 2 ^ 24; decide, fun p3 n3 => ?_⟩
  obtain ⟨E3, e3, g3⟩ := step _ _ (.tup [V.str "aa", V.str "bb"]) 0 n3 E2
  generalize upd H2 p3 (.tup [V.str "aa", V.str "bb"]) = H3 at E3 e3 g3
  replace g1 := e3 _ _ g1
  replace g2 := e3 _ _ g2
  refine ⟨by show 2 ≤ 2 ^ 24; decide, fun p4 n4 => ?_⟩
  obtain ⟨E4, e4, g4⟩ := step _ _ (.tup [V.str "ab", V.str "ba"]) 0 n4 E3
  generalize upd H3 p4 (.tup [V.str "ab", V.str "ba"]) = H4 at E4 e4 g4
  replace g1 := e4 _ _ g1
  replace g2 := e4 _ _ g2
  replace g3 := e4 _ _ g3
  refine ⟨by show 2 ≤ 2 ^ 24; decide, fun p5 n5 => ?_⟩
  obtain ⟨E5, e5, g5⟩ := step _ _ (.tup [V.str "ac", V.str "ca"]) 0 n5 E4
  generalize upd H4 p5 (.tup [V.str "ac", V.str "ca"]) = H5 at E5 e5 g5
  replace g1 := e5 _ _ g1
  replace g2 := e5 _ _ g2
  replace g3 := e5 _ _ g3
  replace g4 := e5 _ _ g4
  refine ⟨by show 2 ≤ 2 ^ 24; decide, fun p6 n6 => ?_⟩
  obtain ⟨E6, e6, g6⟩ := step _ _ (.tup [V.str "aaa", V.str "bbb"]) 0 n6 E5
  generalize upd H5 p6 (.tup [V.str "aaa", V.str "bbb"]) = H6 at E6 e6 g6
  replace g1 := e6 _ _ g1
  replace g2 := e6 _ _ g2
  replace g3 := e6 _ _ g3
  replace g4 := e6 _ _ g4
  replace g5 := e6 _ _ g5
  refine ⟨by show 6 ≤ 2 ^ 24; decide, fun p7 n7 => ?_⟩
  obtain ⟨E7, e7, g7⟩ := step _ _ (.tup [V.ref p1, V.ref p2, V.ref p3, V.ref p4, V.ref p5, V.ref p6]) 0 n7 E6
  generalize upd H6 p7 (.tup [V.ref p1, V.ref p2, V.ref p3, V.ref p4, V.ref p5, V.ref p6]) = H7 at E7 e7 g7
  replace g1 := e7 _ _ g1
  replace g2 := e7 _ _ g2
  replace g3 := e7 _ _ g3
  replace g4 := e7 _ _ g4
  replace g5 := e7 _ _ g5
  replace g6 := e7 _ _ g6
  have S6 : Dt K (Hd d c H7) (.ref p7) sixD := .tup g7 (.cons (.tup g1 (.cons (.str _) (.cons (.str _) .nil))) (.cons (.tup g2 (.cons (.str _) (.cons (.str _) .nil))) (.cons (.tup g3 (.cons (.str _) (.cons (.str _) .nil))) (.cons (.tup g4 (.cons (.str _) (.cons (.str _) .nil))) (.cons (.tup g5 (.cons (.str _) (.cons (.str _) .nil))) (.cons (.tup g6 (.cons (.str _) (.cons (.str _) .nil))) .nil))))))
  have T6 : TA K d c H7 p7 [V.ref p1, V.ref p2, V.ref p3, V.ref p4, V.ref p5, V.ref p6] 6 := ⟨g7, Nat.le_refl 6, _, (.cons (.tup g1 (.cons (.str _) (.cons (.str _) .nil))) (.cons (.tup g2 (.cons (.str _) (.cons (.str _) .nil))) (.cons (.tup g3 (.cons (.str _) (.cons (.str _) .nil))) (.cons (.tup g4 (.cons (.str _) (.cons (.str _) .nil))) (.cons (.tup g5 (.cons (.str _) (.cons (.str _) .nil))) (.cons (.tup g6 (.cons (.str _) (.cons (.str _) .nil))) .nil)))))), (FitAll.cons (n := 47) (Fit.tup (FitAll.cons (S _ (by decide +kernel)) (FitAll.cons (S _ (by decide +kernel)) (FitAll.nil (k := 0))))) (FitAll.cons (n := 47) (Fit.tup (FitAll.cons (S _ (by decide +kernel)) (FitAll.cons (S _ (by decide +kernel)) (FitAll.nil (k := 0))))) (FitAll.cons (n := 47) (Fit.tup (FitAll.cons (S _ (by decide +kernel)) (FitAll.cons (S _ (by decide +kernel)) (FitAll.nil (k := 0))))) (FitAll.cons (n := 47) (Fit.tup (FitAll.cons (S _ (by decide +kernel)) (FitAll.cons (S _ (by decide +kernel)) (FitAll.nil (k := 0))))) (FitAll.cons (n := 47) (Fit.tup (FitAll.cons (S _ (by decide +kernel)) (FitAll.cons (S _ (by decide +kernel)) (FitAll.nil (k := 0))))) (FitAll.cons (n := 47) (Fit.tup (FitAll.cons (S _ (by decide +kernel)) (FitAll.cons (S _ (by decide +kernel)) (FitAll.nil (k := 0))))) (FitAll.nil (k := 1)))))))).mono (by decide) (by decide)⟩
  generalize [V.ref p1, V.ref p2, V.ref p3, V.ref p4, V.ref p5, V.ref p6] = x6 at T6
  clear g7
  refine ⟨by show 2 ≤ 2 ^ 24; decide, fun p8 n8 => ?_⟩
  obtain ⟨E8, e8, g8⟩ := step _ _ (.tup [V.str "bab", V.str "aba"]) 0 n8 E7
  generalize upd H7 p8 (.tup [V.str "bab", V.str "aba"]) = H8 at E8 e8 g8
  replace S6 := S6.same e8
  replace T6 := T6.same e8
  refine ⟨by show 2 ≤ 2 ^ 24; decide, fun p9 n9 => ?_⟩
  obtain ⟨E9, e9, g9⟩ := step _ _ (.tup [V.str "bc", V.str "cb"]) 0 n9 E8
  generalize upd H8 p9 (.tup [V.str "bc", V.str "cb"]) = H9 at E9 e9 g9
  replace S6 := S6.same e9
  replace T6 := T6.same e9
  replace g8 := e9 _ _ g8
  refine ⟨by show 2 ≤ 2 ^ 24; decide, fun p10 n10 => ?_⟩
  obtain ⟨E10, e10, g10⟩ := step _ _ (.tup [V.str "cc", V.str "dd"]) 0 n10 E9
  generalize upd H9 p10 (.tup [V.str "cc", V.str "dd"]) = H10 at E10 e10 g10
  replace S6 := S6.same e10
  replace T6 := T6.same e10
  replace g8 := e10 _ _ g8
  replace g9 := e10 _ _ g9
  refine ⟨by show 3 ≤ 2 ^ 24; decide, fun p11 n11 => ?_⟩
  obtain ⟨E11, e11, g11⟩ := step _ _ (.tup [V.ref p8, V.ref p9, V.ref p10]) 0 n11 E10
  generalize upd H10 p11 (.tup [V.ref p8, V.ref p9, V.ref p10]) = H11 at E11 e11 g11
  replace S6 := S6.same e11
  replace T6 := T6.same e11
  replace g8 := e11 _ _ g8
  replace g9 := e11 _ _ g9
  replace g10 := e11 _ _ g10
  have T3 : TA K d c H11 p11 [V.ref p8, V.ref p9, V.ref p10] 3 := ⟨g11, Nat.le_refl 3, _, (.cons (.tup g8 (.cons (.str _) (.cons (.str _) .nil))) (.cons (.tup g9 (.cons (.str _) (.cons (.str _) .nil))) (.cons (.tup g10 (.cons (.str _) (.cons (.str _) .nil))) .nil))), (FitAll.cons (n := 47) (Fit.tup (FitAll.cons (S _ (by decide +kernel)) (FitAll.cons (S _ (by decide +kernel)) (FitAll.nil (k := 0))))) (FitAll.cons (n := 47) (Fit.tup (FitAll.cons (S _ (by decide +kernel)) (FitAll.cons (S _ (by decide +kernel)) (FitAll.nil (k := 0))))) (FitAll.cons (n := 47) (Fit.tup (FitAll.cons (S _ (by decide +kernel)) (FitAll.cons (S _ (by decide +kernel)) (FitAll.nil (k := 0))))) (FitAll.nil (k := 1))))).mono (by decide) (by decide)⟩
  generalize [V.ref p8, V.ref p9, V.ref p10] = x3 at T3
  refine ⟨4, rfl, by decide, by decide, for_range (lo := 0) (n := 4) (fun i σ G => ∃ (k4 k5 k6 : Option V), σ = [some (.ref a), some (.ref d), some (.ref p7), some (.ref p11), k4, k5, k6, none, none, none, none, none, none] ∧ Deck G d c 0 ∧ Dt K (Hd d c G) (.ref p7) sixD ∧ TA K d c G p7 x6 6 ∧ TA K d c G p11 x3 3)
      ⟨none, none, none, rfl, E11, S6, T6, T3⟩ ?_ ?_⟩
  · rintro i σ G hi ⟨k4, k5, k6, rfl, DG, S6, T6, T3⟩
    refine ⟨_, rfl, _, rfl, _, rfl, _, rfl, p11, x3, rfl, T3.at_, fun b12 B12 s12 g12 => ?_⟩
    have E12 := DG.same s12
    have C1 := T3.cut E12 s12 g12
    replace S6 := S6.same (hd_same s12)
    replace T6 := T6.same (hd_same s12)
    replace T3 := T3.same (hd_same s12)
    clear g12
    refine ⟨p7, b12, _, _, rfl, rfl, T6.at_, C1.at_, by have z1 := T6.2.1; have z2 := C1.2.1; show _ ≤ 2 ^ 24; omega, fun b13 B13 s13 g13 => ?_⟩
    have E13 := E12.same s13
    have A1 := T6.cat C1 E13 s13 g13
    replace S6 := S6.same (hd_same s13)
    replace T6 := T6.same (hd_same s13)
    replace T3 := T3.same (hd_same s13)
    replace C1 := C1.same (hd_same s13)
    clear g13
    refine ⟨by show 2 ≤ 2 ^ 24; decide, fun p14 n14 => ?_⟩
    obtain ⟨E14, e14, f14⟩ := step _ _ (.tup [V.int 4, V.ref b13]) 0 n14 E13
    replace S6 := S6.same e14
    replace T6 := T6.same e14
    replace T3 := T3.same e14
    replace A1 := A1.same e14
    generalize upd B13 p14 (.tup [V.int 4, V.ref b13]) = H14 at E14 e14 f14 S6 T6 T3 A1
    have r1 := f14
    clear f14
    refine ⟨_, rfl, _, rfl, _, rfl, _, rfl, p11, x3, rfl, T3.at_, fun b15 B15 s15 g15 => ?_⟩
    have E15 := E14.same s15
    have C2 := T3.cut E15 s15 g15
    replace S6 := S6.same (hd_same s15)
    replace T6 := T6.same (hd_same s15)
    replace T3 := T3.same (hd_same s15)
    replace A1 := A1.same (hd_same s15)
    replace r1 := (hd_same s15) _ _ r1
    clear g15
    refine ⟨p7, b15, _, _, rfl, rfl, T6.at_, C2.at_, by have z1 := T6.2.1; have z2 := C2.2.1; show _ ≤ 2 ^ 24; omega, fun b16 B16 s16 g16 => ?_⟩
    have E16 := E15.same s16
    have A2 := T6.cat C2 E16 s16 g16
    replace S6 := S6.same (hd_same s16)
    replace T6 := T6.same (hd_same s16)
    replace T3 := T3.same (hd_same s16)
    replace A1 := A1.same (hd_same s16)
    replace r1 := (hd_same s16) _ _ r1
    replace C2 := C2.same (hd_same s16)
    clear g16
    refine ⟨by show 2 ≤ 2 ^ 24; decide, fun p17 n17 => ?_⟩
    obtain ⟨E17, e17, f17⟩ := step _ _ (.tup [V.int 3, V.ref b16]) 0 n17 E16
    replace S6 := S6.same e17
    replace T6 := T6.same e17
    replace T3 := T3.same e17
    replace A1 := A1.same e17
    replace r1 := e17 _ _ r1
    replace A2 := A2.same e17
    generalize upd B16 p17 (.tup [V.int 3, V.ref b16]) = H17 at E17 e17 f17 S6 T6 T3 A1 r1 A2
    have r2 := f17
    clear f17
    refine ⟨_, rfl, _, rfl, _, rfl, p11, x3, rfl, T3.at_, fun b18 B18 s18 g18 => ?_⟩
    have E18 := E17.same s18
    have A3 := T3.cut E18 s18 g18
    replace S6 := S6.same (hd_same s18)
    replace T6 := T6.same (hd_same s18)
    replace T3 := T3.same (hd_same s18)
    replace A1 := A1.same (hd_same s18)
    replace r1 := (hd_same s18) _ _ r1
    replace A2 := A2.same (hd_same s18)
    replace r2 := (hd_same s18) _ _ r2
    clear g18
    refine ⟨by show 2 ≤ 2 ^ 24; decide, fun p19 n19 => ?_⟩
    obtain ⟨E19, e19, f19⟩ := step _ _ (.tup [V.int 4, V.ref b18]) 0 n19 E18
    replace S6 := S6.same e19
    replace T6 := T6.same e19
    replace T3 := T3.same e19
    replace A1 := A1.same e19
    replace r1 := e19 _ _ r1
    replace A2 := A2.same e19
    replace r2 := e19 _ _ r2
    replace A3 := A3.same e19
    generalize upd B18 p19 (.tup [V.int 4, V.ref b18]) = H19 at E19 e19 f19 S6 T6 T3 A1 r1 A2 r2 A3
    have r3 := f19
    clear f19
    refine ⟨by show 3 ≤ 2 ^ 24; decide, fun p20 n20 => ?_⟩
    obtain ⟨E20, e20, f20⟩ := step _ _ (.lst [V.ref p14, V.ref p17, V.ref p19]) 0 n20 E19
    replace S6 := S6.same e20
    replace T6 := T6.same e20
    replace T3 := T3.same e20
    replace A1 := A1.same e20
    replace r1 := e20 _ _ r1
    replace A2 := A2.same e20
    replace r2 := e20 _ _ r2
    replace A3 := A3.same e20
    replace r3 := e20 _ _ r3
    generalize upd H19 p20 (.lst [V.ref p14, V.ref p17, V.ref p19]) = H20 at E20 e20 f20 S6 T6 T3 A1 r1 A2 r2 A3 r3
    have rl := f20
    clear f20
    have al : ∀ x ∈ ([V.ref p14, V.ref p17, V.ref p19] : List V), ∃ (t : Addr) (k : Nat) (b : Addr), x = .ref t ∧ Hd d c H20 t = some (.tup [V.int (k : Int), V.ref b]) ∧ 1 ≤ k ∧ k ≤ 4 ∧ Gd K d c H20 (.ref b) := by
      simp only [List.forall_mem_cons]
      exact ⟨⟨_, 4, _, rfl, r1, by decide, by decide, A1.gd (by decide)⟩, ⟨_, 3, _, rfl, r2, by decide, by decide, A2.gd (by decide)⟩, ⟨_, 4, _, rfl, r3, by decide, by decide, A3.gd (by decide)⟩, fun _ h => nomatch h⟩
    have rl' := hd_sub _ _ rl
    generalize [V.ref p14, V.ref p17, V.ref p19] = xl at al rl'
    refine ⟨p20, rfl, ⟨_, .inl (.inl rl')⟩, for_list (K := K) (a := p20) (xs := xl) (fun j σ G' => ∃ (x5 x6 : Option V), σ = [some (.ref a), some (.ref d), some (.ref p7), some (.ref p11), some (.int (0 + i)), x5, x6, none, none, none, none, none, none] ∧ Same H20 G')
      ⟨k5, k6, rfl, Same.refl _⟩ (fun j σ G' _ h => let ⟨_, _, _, s⟩ := h; .inl (.inl (s _ _ rl'))) ?_ ?_⟩
    · rintro j x σ G' hx ⟨x5, x6', rfl, sG⟩
      obtain ⟨t, k, b, rfl, ht, k1, k4', x, gx1, gx2⟩ := al x (List.mem_of_getElem? hx)
      refine ⟨t, _, rfl, .inl (.inl (sG _ _ (hd_sub _ _ ht))), rfl, _, _, rfl, _, _, rfl, rfl, ?_⟩
      refine ⟨_, rfl, _, rfl, k, .ref b, x, rfl, (gx1.same (hd_same sG)).same hd_sub, gx2.mono (by decide) (by decide), k1, k4', fun G'' sG2 => ⟨_, rfl, _, _, rfl, sG.trans sG2⟩⟩
    · rintro σ G' ⟨x5, x6', rfl, sG⟩
      exact ⟨_, _, _, rfl, E20.same sG, S6.same (hd_same sG), T6.same (hd_same sG), T3.same (hd_same sG)⟩
  · rintro σ G ⟨k4, k5, k6, rfl, DG, S6, T6, T3⟩
    clear T3
    refine ⟨12, rfl, by decide, by decide, for_range (lo := 0) (n := 12) (fun i σ G => ∃ (k4 k5 k6 k7 k8 k9 k10 k11 k12 : Option V), σ = [some (.ref a), some (.ref d), some (.ref p7), some (.ref p11), k4, k5, k6, k7, k8, k9, k10, k11, k12] ∧ Deck G d c (i * 200) ∧ Dt K (Hd d c G) (.ref p7) sixD ∧ TA K d c G p7 x6 6)
      ⟨_, _, _, _, _, _, _, _, _, rfl, DG, S6, T6⟩ ?_ ?_⟩
    · rintro i σ G hi ⟨k4, k5, k6, k7, k8, k9, k10, k11, k12, rfl, DG, S6, T6⟩
      refine ⟨_, rfl, d, c, 4, _, rfl, DG, by omega, by decide, by decide, fun r1 G1 r10 r11 D1 s1 => ⟨_, _, rfl, rfl, ?_⟩⟩
      replace S6 := S6.same s1
      replace T6 := T6.same s1
      obtain ⟨l0, rfl⟩ : ∃ l0 : Nat, r1 = (l0 : Int) := ⟨r1.toNat, by omega⟩
      have l4 : 1 + l0 ≤ 4 := by omega
      refine ⟨_, rfl, _, rfl, d, c, 1 + l0, _, rfl, D1, by omega, by omega, l4, fun pr rs G2 RL RA D2 s2 => ?_⟩
      replace S6 := S6.same s2
      replace T6 := T6.same s2
      obtain ⟨xr, TR, lr⟩ := rule_ta (K := K) RA RL l4
      have six := RL.len
      refine ⟨_, rfl, _, rfl, pr, xr, rfl, .inr (.inl (.inl TR.at_)), _, _, rfl, rfl, d, c, (xr.length : Int) + 1, _, rfl, D2, by omega, by omega, by omega, fun rr G3 q0 q1 D3 s3 => ?_⟩
      replace S6 := S6.same s3
      replace T6 := T6.same s3
      replace TR := TR.same s3
      replace RA := RA.same s3
      refine ⟨_, rfl, _, rfl, _, rfl, d, c, pr, _, _, 1 + l0, rs, rfl, D3, by omega, l4, RL, RA, fun bv G4 hb D4 s4 => ?_⟩
      replace S6 := S6.same s4
      replace T6 := T6.same s4
      replace TR := TR.same s4
      clear RA
      generalize hm : i * 200 + 1 + 100 + 1 + 2 = m4 at D4
      refine ⟨_, _, rfl, ?_⟩
      refine ⟨_, rfl, _, rfl, pr, _, rfl, .inr (.inl (.inl TR.at_)), fun p21 n21 => ?_⟩
      have V1 := TR.gl (by decide) n21 D4
      obtain ⟨E21, e21, f21⟩ := step _ _ (.lst xr) m4 n21 D4
      replace S6 := S6.same e21
      replace T6 := T6.same e21
      replace TR := TR.same e21
      replace hb := hb.same e21
      generalize upd G4 p21 (.lst xr) = H21 at E21 e21 f21 S6 T6 TR hb V1
      clear f21
      refine ⟨_, rfl, _, rfl, _, rfl, pr, xr, rfl, TR.at_, fun b22 B22 s22 g22 => ?_⟩
      have E22 := E21.same s22
      have C1 := TR.cut E22 s22 g22
      replace S6 := S6.same (hd_same s22)
      replace T6 := T6.same (hd_same s22)
      replace TR := TR.same (hd_same s22)
      replace hb := hb.same (hd_same s22)
      replace V1 := V1.same (hd_same s22)
      clear g22
      refine ⟨pr, b22, _, _, rfl, rfl, TR.at_, C1.at_, by have z1 := TR.2.1; have z2 := C1.2.1; show _ ≤ 2 ^ 24; omega, fun b23 B23 s23 g23 => ?_⟩
      have E23 := E22.same s23
      have V2 := TR.cat C1 E23 s23 g23
      replace S6 := S6.same (hd_same s23)
      replace T6 := T6.same (hd_same s23)
      replace TR := TR.same (hd_same s23)
      replace hb := hb.same (hd_same s23)
      replace V1 := V1.same (hd_same s23)
      replace C1 := C1.same (hd_same s23)
      clear g23
      refine ⟨_, rfl, _, rfl, _, rfl, pr, xr, rfl, TR.at_, fun b24 B24 s24 g24 => ?_⟩
      have E24 := E23.same s24
      have C1 := TR.cut E24 s24 g24
      replace S6 := S6.same (hd_same s24)
      replace T6 := T6.same (hd_same s24)
      replace TR := TR.same (hd_same s24)
      replace hb := hb.same (hd_same s24)
      replace V1 := V1.same (hd_same s24)
      replace V2 := V2.same (hd_same s24)
      clear g24
      refine ⟨_, rfl, by show 1 ≤ 2 ^ 24; decide, fun p25 n25 => ?_⟩
      have C2 := TA.one hb n25 E24
      obtain ⟨E25, e25, f25⟩ := step _ _ (.tup [bv]) m4 n25 E24
      replace S6 := S6.same e25
      replace T6 := T6.same e25
      replace TR := TR.same e25
      replace hb := hb.same e25
      replace V1 := V1.same e25
      replace V2 := V2.same e25
      replace C1 := C1.same e25
      generalize upd B24 p25 (.tup [bv]) = H25 at E25 e25 f25 S6 T6 TR hb V1 V2 C1 C2
      clear f25
      refine ⟨b24, p25, _, _, rfl, rfl, C1.at_, C2.at_, by have z1 := C1.2.1; have z2 := C2.2.1; show _ ≤ 2 ^ 24; omega, fun b26 B26 s26 g26 => ?_⟩
      have E26 := E25.same s26
      have C3 := C1.cat C2 E26 s26 g26
      replace S6 := S6.same (hd_same s26)
      replace T6 := T6.same (hd_same s26)
      replace TR := TR.same (hd_same s26)
      replace hb := hb.same (hd_same s26)
      replace V1 := V1.same (hd_same s26)
      replace V2 := V2.same (hd_same s26)
      replace C1 := C1.same (hd_same s26)
      replace C2 := C2.same (hd_same s26)
      clear g26
      refine ⟨_, rfl, _, rfl, _, rfl, pr, xr, rfl, TR.at_, fun b27 B27 s27 g27 => ?_⟩
      have E27 := E26.same s27
      have C4 := TR.cut E27 s27 g27
      replace S6 := S6.same (hd_same s27)
      replace T6 := T6.same (hd_same s27)
      replace TR := TR.same (hd_same s27)
      replace hb := hb.same (hd_same s27)
      replace V1 := V1.same (hd_same s27)
      replace V2 := V2.same (hd_same s27)
      replace C3 := C3.same (hd_same s27)
      clear g27
      refine ⟨b26, b27, _, _, rfl, rfl, C3.at_, C4.at_, by have z1 := C3.2.1; have z2 := C4.2.1; show _ ≤ 2 ^ 24; omega, fun b28 B28 s28 g28 => ?_⟩
      have E28 := E27.same s28
      have V3 := C3.cat C4 E28 s28 g28
      replace S6 := S6.same (hd_same s28)
      replace T6 := T6.same (hd_same s28)
      replace TR := TR.same (hd_same s28)
      replace hb := hb.same (hd_same s28)
      replace V1 := V1.same (hd_same s28)
      replace V2 := V2.same (hd_same s28)
      replace C3 := C3.same (hd_same s28)
      replace C4 := C4.same (hd_same s28)
      clear g28
      refine ⟨_, rfl, _, rfl, _, rfl, pr, xr, rfl, TR.at_, fun b29 B29 s29 g29 => ?_⟩
      have E29 := E28.same s29
      have C1 := TR.cut E29 s29 g29
      replace S6 := S6.same (hd_same s29)
      replace T6 := T6.same (hd_same s29)
      replace TR := TR.same (hd_same s29)
      replace hb := hb.same (hd_same s29)
      replace V1 := V1.same (hd_same s29)
      replace V2 := V2.same (hd_same s29)
      replace V3 := V3.same (hd_same s29)
      clear g29
      refine ⟨_, rfl, by show 1 ≤ 2 ^ 24; decide, fun p30 n30 => ?_⟩
      have C2 := TA.one hb n30 E29
      obtain ⟨E30, e30, f30⟩ := step _ _ (.tup [bv]) m4 n30 E29
      replace S6 := S6.same e30
      replace T6 := T6.same e30
      replace TR := TR.same e30
      replace hb := hb.same e30
      replace V1 := V1.same e30
      replace V2 := V2.same e30
      replace V3 := V3.same e30
      replace C1 := C1.same e30
      generalize upd B29 p30 (.tup [bv]) = H30 at E30 e30 f30 S6 T6 TR hb V1 V2 V3 C1 C2
      clear f30
      refine ⟨b29, p30, _, _, rfl, rfl, C1.at_, C2.at_, by have z1 := C1.2.1; have z2 := C2.2.1; show _ ≤ 2 ^ 24; omega, fun b31 B31 s31 g31 => ?_⟩
      have E31 := E30.same s31
      have C3 := C1.cat C2 E31 s31 g31
      replace S6 := S6.same (hd_same s31)
      replace T6 := T6.same (hd_same s31)
      replace TR := TR.same (hd_same s31)
      replace hb := hb.same (hd_same s31)
      replace V1 := V1.same (hd_same s31)
      replace V2 := V2.same (hd_same s31)
      replace V3 := V3.same (hd_same s31)
      replace C1 := C1.same (hd_same s31)
      replace C2 := C2.same (hd_same s31)
      clear g31
      refine ⟨_, rfl, _, rfl, _, _, rfl, rfl, _, rfl, pr, xr, rfl, TR.at_, fun b32 B32 s32 g32 => ?_⟩
      have E32 := E31.same s32
      have C4 := TR.cut E32 s32 g32
      replace S6 := S6.same (hd_same s32)
      replace T6 := T6.same (hd_same s32)
      replace TR := TR.same (hd_same s32)
      replace hb := hb.same (hd_same s32)
      replace V1 := V1.same (hd_same s32)
      replace V2 := V2.same (hd_same s32)
      replace V3 := V3.same (hd_same s32)
      replace C3 := C3.same (hd_same s32)
      clear g32
      refine ⟨b31, b32, _, _, rfl, rfl, C3.at_, C4.at_, by have z1 := C3.2.1; have z2 := C4.2.1; show _ ≤ 2 ^ 24; omega, fun b33 B33 s33 g33 => ?_⟩
      have E33 := E32.same s33
      have V4 := C3.cat C4 E33 s33 g33
      replace S6 := S6.same (hd_same s33)
      replace T6 := T6.same (hd_same s33)
      replace TR := TR.same (hd_same s33)
      replace hb := hb.same (hd_same s33)
      replace V1 := V1.same (hd_same s33)
      replace V2 := V2.same (hd_same s33)
      replace V3 := V3.same (hd_same s33)
      replace C3 := C3.same (hd_same s33)
      replace C4 := C4.same (hd_same s33)
      clear g33
      refine ⟨by show 5 ≤ 2 ^ 24; decide, fun p34 n34 => ?_⟩
      obtain ⟨E34, e34, f34⟩ := step _ _ (.lst [V.ref pr, V.ref p21, V.ref b23, V.ref b28, V.ref b33]) m4 n34 E33
      replace S6 := S6.same e34
      replace T6 := T6.same e34
      replace TR := TR.same e34
      replace hb := hb.same e34
      replace V1 := V1.same e34
      replace V2 := V2.same e34
      replace V3 := V3.same e34
      replace V4 := V4.same e34
      generalize upd B33 p34 (.lst [V.ref pr, V.ref p21, V.ref b23, V.ref b28, V.ref b33]) = H34 at E34 e34 f34 S6 T6 TR hb V1 V2 V3 V4
      have fl1 := f34
      clear f34
      have B1 : GdAll K d c H34 [V.ref pr, V.ref p21, V.ref b23, V.ref b28, V.ref b33] := by
        unfold GdAll
        simp only [List.forall_mem_cons]
        exact ⟨TR.gd (by decide), V1, V2.gd (by decide), V3.gd (by decide), V4.gd (by decide), fun _ h => nomatch h⟩
      have w1 : ([V.ref pr, V.ref p21, V.ref b23, V.ref b28, V.ref b33] : List V).length = 5 := rfl
      generalize [V.ref pr, V.ref p21, V.ref b23, V.ref b28, V.ref b33] = xa at fl1 B1 w1
      clear V1 V2 V3 V4
      refine ⟨_, rfl, _, rfl, by show 1 ≤ 2 ^ 24; decide, fun p35 n35 => ?_⟩
      have W1 := TA.one hb n35 E34
      obtain ⟨E35, e35, f35⟩ := step _ _ (.tup [bv]) m4 n35 E34
      replace S6 := S6.same e35
      replace T6 := T6.same e35
      replace TR := TR.same e35
      replace hb := hb.same e35
      replace fl1 := e35 _ _ fl1
      replace B1 := B1.same e35
      generalize upd H34 p35 (.tup [bv]) = H35 at E35 e35 f35 S6 T6 TR hb fl1 B1 W1
      clear f35
      refine ⟨_, rfl, _, rfl, _, rfl, by show 1 ≤ 2 ^ 24; decide, fun p36 n36 => ?_⟩
      have C1 := TA.one hb n36 E35
      obtain ⟨E36, e36, f36⟩ := step _ _ (.tup [bv]) m4 n36 E35
      replace S6 := S6.same e36
      replace T6 := T6.same e36
      replace TR := TR.same e36
      replace hb := hb.same e36
      replace fl1 := e36 _ _ fl1
      replace B1 := B1.same e36
      replace W1 := W1.same e36
      generalize upd H35 p36 (.tup [bv]) = H36 at E36 e36 f36 S6 T6 TR hb fl1 B1 W1 C1
      clear f36
      refine ⟨p36, 7, _, rfl, rfl, .inl (.inl C1.at_), (fun z => nomatch z), by decide, by decide, by show 1 ≤ 1000; decide, fun p37 n37 => ?_⟩
      have C2 := (show TA K d c (upd H36 p37 (.tup (List.replicate (7 : Int).toNat [bv]).flatten)) p37 (List.replicate (7 : Int).toNat [bv]).flatten 7 from TA.seven C1 n37 E36)
      obtain ⟨E37, e37, f37⟩ := step _ _ (.tup (List.replicate (7 : Int).toNat [bv]).flatten) m4 n37 E36
      replace S6 := S6.same e37
      replace T6 := T6.same e37
      replace TR := TR.same e37
      replace hb := hb.same e37
      replace fl1 := e37 _ _ fl1
      replace B1 := B1.same e37
      replace W1 := W1.same e37
      replace C1 := C1.same e37
      generalize upd H36 p37 (.tup (List.replicate (7 : Int).toNat [bv]).flatten) = H37 at E37 e37 f37 S6 T6 TR hb fl1 B1 W1 C1 C2
      clear f37
      refine ⟨pr, p37, _, _, rfl, rfl, TR.at_, C2.at_, by have z1 := TR.2.1; have z2 := C2.2.1; show _ ≤ 2 ^ 24; omega, fun b38 B38 s38 g38 => ?_⟩
      have E38 := E37.same s38
      have W3 := TR.cat C2 E38 s38 g38
      replace S6 := S6.same (hd_same s38)
      replace T6 := T6.same (hd_same s38)
      replace TR := TR.same (hd_same s38)
      replace hb := hb.same (hd_same s38)
      replace fl1 := (hd_same s38) _ _ fl1
      replace B1 := B1.same (hd_same s38)
      replace W1 := W1.same (hd_same s38)
      replace C1 := C1.same (hd_same s38)
      replace C2 := C2.same (hd_same s38)
      clear g38
      refine ⟨_, rfl, _, rfl, _, rfl, p7, x6, rfl, T6.at_, fun b39 B39 s39 g39 => ?_⟩
      have E39 := E38.same s39
      have C1 := T6.cut E39 s39 g39
      replace S6 := S6.same (hd_same s39)
      replace T6 := T6.same (hd_same s39)
      replace TR := TR.same (hd_same s39)
      replace hb := hb.same (hd_same s39)
      replace fl1 := (hd_same s39) _ _ fl1
      replace B1 := B1.same (hd_same s39)
      replace W1 := W1.same (hd_same s39)
      replace W3 := W3.same (hd_same s39)
      clear g39
      refine ⟨_, rfl, by show 1 ≤ 2 ^ 24; decide, fun p40 n40 => ?_⟩
      have C2 := TA.one hb n40 E39
      obtain ⟨E40, e40, f40⟩ := step _ _ (.tup [bv]) m4 n40 E39
      replace S6 := S6.same e40
      replace T6 := T6.same e40
      replace TR := TR.same e40
      replace hb := hb.same e40
      replace fl1 := e40 _ _ fl1
      replace B1 := B1.same e40
      replace W1 := W1.same e40
      replace W3 := W3.same e40
      replace C1 := C1.same e40
      generalize upd B39 p40 (.tup [bv]) = H40 at E40 e40 f40 S6 T6 TR hb fl1 B1 W1 W3 C1 C2
      clear f40
      refine ⟨b39, p40, _, _, rfl, rfl, C1.at_, C2.at_, by have z1 := C1.2.1; have z2 := C2.2.1; show _ ≤ 2 ^ 24; omega, fun b41 B41 s41 g41 => ?_⟩
      have E41 := E40.same s41
      have C3 := C1.cat C2 E41 s41 g41
      replace S6 := S6.same (hd_same s41)
      replace T6 := T6.same (hd_same s41)
      replace TR := TR.same (hd_same s41)
      replace hb := hb.same (hd_same s41)
      replace fl1 := (hd_same s41) _ _ fl1
      replace B1 := B1.same (hd_same s41)
      replace W1 := W1.same (hd_same s41)
      replace W3 := W3.same (hd_same s41)
      replace C1 := C1.same (hd_same s41)
      replace C2 := C2.same (hd_same s41)
      clear g41
      refine ⟨_, rfl, _, rfl, _, rfl, p7, x6, rfl, T6.at_, fun b42 B42 s42 g42 => ?_⟩
      have E42 := E41.same s42
      have C4 := T6.cut E42 s42 g42
      replace S6 := S6.same (hd_same s42)
      replace T6 := T6.same (hd_same s42)
      replace TR := TR.same (hd_same s42)
      replace hb := hb.same (hd_same s42)
      replace fl1 := (hd_same s42) _ _ fl1
      replace B1 := B1.same (hd_same s42)
      replace W1 := W1.same (hd_same s42)
      replace W3 := W3.same (hd_same s42)
      replace C3 := C3.same (hd_same s42)
      clear g42
      refine ⟨b41, b42, _, _, rfl, rfl, C3.at_, C4.at_, by have z1 := C3.2.1; have z2 := C4.2.1; show _ ≤ 2 ^ 24; omega, fun b43 B43 s43 g43 => ?_⟩
      have E43 := E42.same s43
      have W4 := C3.cat C4 E43 s43 g43
      replace S6 := S6.same (hd_same s43)
      replace T6 := T6.same (hd_same s43)
      replace TR := TR.same (hd_same s43)
      replace hb := hb.same (hd_same s43)
      replace fl1 := (hd_same s43) _ _ fl1
      replace B1 := B1.same (hd_same s43)
      replace W1 := W1.same (hd_same s43)
      replace W3 := W3.same (hd_same s43)
      replace C3 := C3.same (hd_same s43)
      replace C4 := C4.same (hd_same s43)
      clear g43
      refine ⟨_, rfl, by show 1 ≤ 2 ^ 24; decide, fun p44 n44 => ?_⟩
      have W5 := Gd.tup1 (TR.fit (by decide)) n44 E43
      obtain ⟨E44, e44, f44⟩ := step _ _ (.tup [V.ref pr]) m4 n44 E43
      replace S6 := S6.same e44
      replace T6 := T6.same e44
      replace TR := TR.same e44
      replace hb := hb.same e44
      replace fl1 := e44 _ _ fl1
      replace B1 := B1.same e44
      replace W1 := W1.same e44
      replace W3 := W3.same e44
      replace W4 := W4.same e44
      generalize upd B43 p44 (.tup [V.ref pr]) = H44 at E44 e44 f44 S6 T6 TR hb fl1 B1 W1 W3 W4 W5
      clear f44
      refine ⟨_, rfl, pr, xr, rfl, TR.at_, fun p45 n45 => ?_⟩
      have W6 := TR.rev n45 E44
      obtain ⟨E45, e45, f45⟩ := step _ _ (.tup xr.reverse) m4 n45 E44
      replace S6 := S6.same e45
      replace T6 := T6.same e45
      replace TR := TR.same e45
      replace hb := hb.same e45
      replace fl1 := e45 _ _ fl1
      replace B1 := B1.same e45
      replace W1 := W1.same e45
      replace W3 := W3.same e45
      replace W4 := W4.same e45
      replace W5 := W5.same e45
      generalize upd H44 p45 (.tup xr.reverse) = H45 at E45 e45 f45 S6 T6 TR hb fl1 B1 W1 W3 W4 W5 W6
      clear f45
      refine ⟨by show 0 ≤ 2 ^ 24; decide, fun p46 n46 => ?_⟩
      have W7 := Gd.nil (K := K) n46 E45
      obtain ⟨E46, e46, f46⟩ := step _ _ (.tup []) m4 n46 E45
      replace S6 := S6.same e46
      replace T6 := T6.same e46
      replace TR := TR.same e46
      replace hb := hb.same e46
      replace fl1 := e46 _ _ fl1
      replace B1 := B1.same e46
      replace W1 := W1.same e46
      replace W3 := W3.same e46
      replace W4 := W4.same e46
      replace W5 := W5.same e46
      replace W6 := W6.same e46
      generalize upd H45 p46 (.tup []) = H46 at E46 e46 f46 S6 T6 TR hb fl1 B1 W1 W3 W4 W5 W6 W7
      clear f46
      refine ⟨by show 7 ≤ 2 ^ 24; decide, fun p47 n47 => ?_⟩
      obtain ⟨E47, e47, f47⟩ := step _ _ (.lst [V.ref p35, bv, V.ref b38, V.ref b43, V.ref p44, V.ref p45, V.ref p46]) m4 n47 E46
      replace S6 := S6.same e47
      replace T6 := T6.same e47
      replace TR := TR.same e47
      replace hb := hb.same e47
      replace fl1 := e47 _ _ fl1
      replace B1 := B1.same e47
      replace W1 := W1.same e47
      replace W3 := W3.same e47
      replace W4 := W4.same e47
      replace W5 := W5.same e47
      replace W6 := W6.same e47
      replace W7 := W7.same e47
      generalize upd H46 p47 (.lst [V.ref p35, bv, V.ref b38, V.ref b43, V.ref p44, V.ref p45, V.ref p46]) = H47 at E47 e47 f47 S6 T6 TR hb fl1 B1 W1 W3 W4 W5 W6 W7
      have fl2 := f47
      clear f47
      have B2 : GdAll K d c H47 [V.ref p35, bv, V.ref b38, V.ref b43, V.ref p44, V.ref p45, V.ref p46] := by
        unfold GdAll
        simp only [List.forall_mem_cons]
        exact ⟨W1.gd (by decide), hb.gd, W3.gd (by decide), W4.gd (by decide), W5, W6.gd (by decide), W7, fun _ h => nomatch h⟩
      have w2 : ([V.ref p35, bv, V.ref b38, V.ref b43, V.ref p44, V.ref p45, V.ref p46] : List V).length = 7 := rfl
      generalize [V.ref p35, bv, V.ref b38, V.ref b43, V.ref p44, V.ref p45, V.ref p46] = xb at fl2 B2 w2
      clear W1 W3 W4 W5 W6 W7
      refine ⟨p34, p47, _, _, rfl, rfl, hd_sub _ _ fl1, hd_sub _ _ fl2, by rw [w1, w2]; decide, fun p48 n48 => ?_⟩
      have B3 := (B1.app B2).same (hd_new n48 (.lst (xa ++ xb)))
      obtain ⟨E48, e48, f48⟩ := step _ _ (.lst (xa ++ xb)) m4 n48 E47
      replace S6 := S6.same e48
      replace T6 := T6.same e48
      replace TR := TR.same e48
      replace hb := hb.same e48
      replace fl1 := e48 _ _ fl1
      replace B1 := B1.same e48
      replace fl2 := e48 _ _ fl2
      replace B2 := B2.same e48
      generalize upd H47 p48 (.lst (xa ++ xb)) = H48 at E48 e48 f48 S6 T6 TR hb fl1 B1 fl2 B2 B3
      have fl3 := f48
      clear f48
      generalize xa ++ xb = xc at B3 fl3
      have fl4 := hd_sub _ _ fl3
      refine ⟨_, rfl, p48, rfl, ⟨_, .inl (.inl fl4)⟩, for_list (K := K) (a := p48) (xs := xc) (fun j σ G' => ∃ (x5 x6 : Option V), σ = [some (.ref a), some (.ref d), some (.ref p7), some (.ref p11), k4, x5, x6, some (.int (0 + i)), some (.int (1 + l0 : Nat)), some (.ref pr), some (.int rr), some bv, some (.ref p48)] ∧ Same H48 G')
        ⟨_, _, rfl, Same.refl _⟩ (fun j σ G' _ h => let ⟨_, _, _, s⟩ := h; .inl (.inl (s _ _ fl4))) ?_ ?_⟩
      · rintro j v σ G' hv ⟨x5, x6', rfl, sG⟩
        obtain ⟨x, gx1, gx2⟩ := (B3 v (List.mem_of_getElem? hv)).same (hd_same sG)
        refine ⟨_, rfl, by show 3 ≤ 2 ^ 24; decide, fun pk nk => ?_⟩
        have sk := sG.trans (same_new nk (.lst [V.int (1 + l0 : Nat), V.int 1, V.int 4]))
        have gk : upd G' pk (.lst [V.int (1 + l0 : Nat), V.int 1, V.int 4]) pk = some (.lst [V.int (1 + l0 : Nat), V.int 1, V.int 4]) := upd_same
        have gx1' := gx1.same (hd_new nk (.lst [V.int (1 + l0 : Nat), V.int 1, V.int 4]))
        refine ⟨pk, rfl, ⟨_, .inl (.inl gk)⟩, for_list (K := K) (a := pk) (xs := [V.int (1 + l0 : Nat), V.int 1, V.int 4]) (fun j2 σ G2 => ∃ (x5 : Option V), σ = [some (.ref a), some (.ref d), some (.ref p7), some (.ref p11), k4, x5, some v, some (.int (0 + i)), some (.int (1 + l0 : Nat)), some (.ref pr), some (.int rr), some bv, some (.ref p48)] ∧ Same (upd G' pk (.lst [V.int (1 + l0 : Nat), V.int 1, V.int 4])) G2)
          ⟨_, rfl, Same.refl _⟩ (fun j σ G' _ h => let ⟨_, _, s⟩ := h; .inl (.inl (s _ _ gk))) ?_ ?_⟩
        · rintro j2 y σ G2 hy ⟨x5, rfl, sG2⟩
          obtain ⟨k, rfl, k1, k2⟩ : ∃ k : Nat, y = .int (k : Int) ∧ 1 ≤ k ∧ k ≤ 4 := by
            have m := List.mem_of_getElem? hy
            rcases List.mem_cons.mp m with rfl | m
            · exact ⟨1 + l0, rfl, by omega, l4⟩
            · rcases List.mem_cons.mp m with rfl | m
              · exact ⟨1, rfl, by decide, by decide⟩
              · rw [List.mem_singleton.mp m]; exact ⟨4, rfl, by decide, by decide⟩
          refine ⟨_, rfl, _, rfl, k, v, x, rfl, (gx1'.same (hd_same sG2)).same hd_sub, gx2.mono (by decide) (by decide), k1, k2, fun G3 s3 => ⟨_, rfl, _, rfl, sG2.trans s3⟩⟩
        · rintro σ G2 ⟨x5, rfl, sG2⟩
          exact ⟨_, _, rfl, sk.trans sG2⟩
      · rintro σ G' ⟨x5, x6', rfl, sG⟩
        exact ⟨_, _, _, _, _, _, _, _, _, rfl, (E48.same sG).mono (by omega), S6.same (hd_same sG), T6.same (hd_same sG)⟩
    · rintro σ G ⟨k4, k5, k6, k7, k8, k9, k10, k11, k12, rfl, DG, S6, T6⟩
      have S6' := S6.same hd_sub
      have sm6 : Small sixD := by unfold Small; decide +kernel
      have e1 : errD 1 sixD = .tuple [.int 0, .str "pair"] := by rfl
      have e2 : errD 4 .none = .tuple [.none, .str "rule"] := rfl
      refine ⟨_, rfl, 1, .ref p7, sixD, rfl, S6', sm6, by decide, by decide, fun v1 G1 s1 x1 => ?_⟩
      refine ⟨4, .non, .none, rfl, .non, by unfold Small; decide +kernel, by decide, by decide, fun v2 G2 s2 x2 => ?_⟩
      rw [e1] at x1
      rw [e2] at x2
      refine ⟨by show 2 ≤ 2 ^ 24; decide, fun pl nl => ?_⟩
      have sl := same_new nl (.lst [v1, v2])
      refine ⟨.ref pl, .list [.tuple [.int 0, .str "pair"], .tuple [.none, .str "rule"]], rfl, .lst upd_same (.cons (x1.same (s2.trans sl)) (.cons (x2.same sl) .nil)), by decide +kernel, by decide +kernel, by decide +kernel, rfl, ?_⟩
      have ee : (PyData.list [.tuple [.int 0, .str "pair"], .tuple [.none, .str "rule"]]).shown = ("[(0, 'pair'), (None, 'rule')]" : Str) := by decide +kernel
      show Q (.bl (decide (V.str (PyData.list [.tuple [.int 0, .str "pair"], .tuple [.none, .str "rule"]]).shown = V.str "[(0, 'pair'), (None, 'rule')]"))) _
      rw [ee, decide_eq_true rfl]
      exact q _
end
end K27
namespace K27
open PySem L2 GL KC GZ KW KR KX

theorem all_mk {l : PySem.W.OpenLaw} {w : World} {K : PySem.W.Frag} {h : Heap} {mg : Str → Option Value} {fa : Addr} (X : K.In h) (G : h.Ns mainGlobals mg) (hfa : mg "law" = some (.ref fa))
    {f4 f5 f6 f8 f9 f10 f11 f12 f13 f14 f15 f16 : Addr} {d4 d5 d6 d8 d9 d10 d11 d12 d13 d14 d15 d16 : FuncData} {t0 t1 t2 : Tok}
    (F4 : DF K "is_piece" sPiece f4 d4) (F5 : DF K "is_pair" sPair f5 d5) (F6 : DF K "rule_error" sErr f6 d6) (F8 : DF K "_law_deck" sDeck f8 d8) (F9 : DF K "_law_draw" sDraw f9 d9) (F10 : DF K "_law_one" sOne f10 d10) (F11 : DF K "_law_rule" sRule f11 d11) (F12 : DF K "_law_is_piece" sLPiece f12 d12) (F13 : DF K "_law_error" sLErr f13 d13) (F14 : DF K "_law_odd_pair" sOdd f14 d14) (F15 : DF K "_law_right" sRight f15 d15) (F16 : DF K "law" sLaw f16 d16)
    (z0 : PySem.W.nsIn K mainGlobals "int" = some none) (z1 : PySem.W.nsIn K mainGlobals "tuple" = some none) (z2 : PySem.W.nsIn K mainGlobals "len" = some none) (z3 : PySem.W.nsIn K mainGlobals "abs" = some none) (z4 : PySem.W.nsIn K mainGlobals "range" = some none) (z5 : PySem.W.nsIn K mainGlobals "isinstance" = some none) (z6 : PySem.W.nsIn K mainGlobals "str" = some none) (z7 : PySem.W.nsIn K mainGlobals "all" = some none) (z8 : PySem.W.nsIn K mainGlobals "enumerate" = some none) (z9 : PySem.W.nsIn K mainGlobals "list" = some none) (z10 : PySem.W.nsIn K mainGlobals "repr" = some none)
    (m0 : PySem.W.nsIn K mainGlobals "MAX_WINDOW" = some (some (.int 3 t0))) (m1 : PySem.W.nsIn K mainGlobals "MAX_PAIRS" = some (some (.int 6 t1))) (m2 : PySem.W.nsIn K mainGlobals "LETTERS" = some (some (.str "abcd" t2))) :
    ∃ fd : FuncData, (∀ (s : Shared) (v : Value), BindsTo s fd ⟨[v], []⟩ [("_law_script", v)]) ∧ ∀ base : Heap, K.In base → base.Ns mainGlobals mg → Fg l.prog w K mg base CX0 5 fa fd ["_law_script"] (spLaw K) := by
  have e := hfa.symm.trans (PySem.W.mg_of X G F16.ns)
  cases e
  have C : TxC mg := ⟨PySem.W.mg_none_of X G z0, PySem.W.mg_none_of X G z1, PySem.W.mg_none_of X G z2, PySem.W.mg_none_of X G z3, PySem.W.mg_none_of X G z4⟩
  have T : Txt mg := ⟨C, PySem.W.mg_none_of X G z5, PySem.W.mg_none_of X G z6, PySem.W.mg_none_of X G z7, PySem.W.mg_none_of X G z8, PySem.W.mg_none_of X G z9, PySem.W.mg_none_of X G z10, ⟨_, PySem.W.mg_of X G m0⟩, ⟨_, PySem.W.mg_of X G m1⟩, ⟨_, PySem.W.mg_of X G m2⟩⟩
  refine ⟨d16, fun s v => ?_, fun base _ _ => ?_⟩
  · obtain ⟨oc, od, kV, doc, pm, an, cdv, ct, osl, rfl, _, _⟩ := F16.fn.ex
    exact .of_eq rfl
  have B4 : L2.Binds K d4 ["letters", "value"] [] := F4.fn.binds fun _ _ _ _ _ _ us hl => match us, hl with | [_, _], _ => rfl
  have D4 : Dfn l.prog w K mg base "is_piece" 1 f4 d4 ["letters", "value"] (spPiece K) := ⟨ok_piece F4.fn T, B4, PySem.W.mg_of X G F4.ns, F4.fn.kp⟩
  have B5 : L2.Binds K d5 ["letters", "value"] [] := F5.fn.binds fun _ _ _ _ _ _ us hl => match us, hl with | [_, _], _ => rfl
  have D5 : Dfn l.prog w K mg base "is_pair" 2 f5 d5 ["letters", "value"] (spPair K) := ⟨ok_pair F5.fn T D4, B5, PySem.W.mg_of X G F5.ns, F5.fn.kp⟩
  have B6 : L2.Binds K d6 ["letters", "value"] [] := F6.fn.binds fun _ _ _ _ _ _ us hl => match us, hl with | [_, _], _ => rfl
  have D6 : Dfn l.prog w K mg base "rule_error" 3 f6 d6 ["letters", "value"] (spRErr K) := ⟨ok_err F6.fn T D5, B6, PySem.W.mg_of X G F6.ns, F6.fn.kp⟩
  have B8 : L2.Binds K d8 ["_law_script"] [] := F8.fn.binds fun _ _ _ _ _ _ us hl => match us, hl with | [_], _ => rfl
  have D8 : Dfn l.prog w K mg base "_law_deck" 1 f8 d8 ["_law_script"] (spDeck K) := ⟨ok_deck F8.fn C, B8, PySem.W.mg_of X G F8.ns, F8.fn.kp⟩
  have B9 : L2.Binds K d9 ["_law_deck_here", "_law_many"] [] := F9.fn.binds fun _ _ _ _ _ _ us hl => match us, hl with | [_, _], _ => rfl
  have D9 : Dfn l.prog w K mg base "_law_draw" 1 f9 d9 ["_law_deck_here", "_law_many"] spDraw := ⟨ok_draw F9.fn C, B9, PySem.W.mg_of X G F9.ns, F9.fn.kp⟩
  have B10 : L2.Binds K d10 ["_law_deck_here", "_law_items"] [] := F10.fn.binds fun _ _ _ _ _ _ us hl => match us, hl with | [_, _], _ => rfl
  have D10 : Dfn l.prog w K mg base "_law_one" 2 f10 d10 ["_law_deck_here", "_law_items"] spOne := ⟨ok_one F10.fn C D9, B10, PySem.W.mg_of X G F10.ns, F10.fn.kp⟩
  have D10s : Dfn l.prog w K mg base "_law_one" 2 f10 d10 ["_law_deck_here", "_law_items"] spOneT := ⟨ok_oneT F10.fn T D9, B10, PySem.W.mg_of X G F10.ns, F10.fn.kp⟩
  have B11 : L2.Binds K d11 ["_law_deck_here", "_law_letters"] [] := F11.fn.binds fun _ _ _ _ _ _ us hl => match us, hl with | [_, _], _ => rfl
  have D11 : Dfn l.prog w K mg base "_law_rule" 3 f11 d11 ["_law_deck_here", "_law_letters"] spRule := ⟨ok_rule F11.fn T D9 D10s, B11, PySem.W.mg_of X G F11.ns, F11.fn.kp⟩
  have B12 : L2.Binds K d12 ["_law_value", "_law_letters"] [] := F12.fn.binds fun _ _ _ _ _ _ us hl => match us, hl with | [_, _], _ => rfl
  have D12 : Dfn l.prog w K mg base "_law_is_piece" 1 f12 d12 ["_law_value", "_law_letters"] (spLPiece K) := ⟨ok_lpiece F12.fn T, B12, PySem.W.mg_of X G F12.ns, F12.fn.kp⟩
  have B13 : L2.Binds K d13 ["_law_letters", "_law_value"] [] := F13.fn.binds fun _ _ _ _ _ _ us hl => match us, hl with | [_, _], _ => rfl
  have D13 : Dfn l.prog w K mg base "_law_error" 2 f13 d13 ["_law_letters", "_law_value"] (spRErr K) := ⟨ok_lerr F13.fn T D12, B13, PySem.W.mg_of X G F13.ns, F13.fn.kp⟩
  have B14 : L2.Binds K d14 ["_law_deck_here", "_law_letters", "_law_rule_here"] [] := F14.fn.binds fun _ _ _ _ _ _ us hl => match us, hl with | [_, _, _], _ => rfl
  have D14 : Dfn l.prog w K mg base "_law_odd_pair" 3 f14 d14 ["_law_deck_here", "_law_letters", "_law_rule_here"] (spOddP K) := ⟨ok_odd F14.fn T D10, B14, PySem.W.mg_of X G F14.ns, F14.fn.kp⟩
  have B15 : L2.Binds K d15 ["_law_letters", "_law_value"] [] := F15.fn.binds fun _ _ _ _ _ _ us hl => match us, hl with | [_, _], _ => rfl
  have D15 : Gfn l.prog w K mg base "_law_right" 4 f15 d15 ["_law_letters", "_law_value"] (spRight K) := ⟨ok_right F15.fn T D6 D13, B15, PySem.W.mg_of X G F15.ns, F15.fn.kp⟩
  exact ok_law F16.fn T D8 D9 D11 D14 D15 D6
end K27
open PySem PySem.W PyProof.Rows
set_option maxRecDepth 100000 in
set_option maxHeartbeats 0 in
theorem PySem.Challenge.cw_pairedaway_k27_rules_with_errors_holds : PySem.Challenge.rw_pairedaway_k27_rules_with_errors.Holds := by
  w_on; o_law; k_head; (case hw => w_witness2)
  k_fill
  refine GL.walk_g (l := PySem.Challenge.rw_pairedaway_k27_rules_with_errors) (n := 63) (k := 5) (x := "_law_script") (sp := K27.spLaw) rfl (by decide) rfl ⟨rfl, by decide, by decide⟩ (fun w h Y => PySem.W.kIn_of Y) ?F (fun K H a ns hl _ hS => ⟨a, ns, rfl, hS, hl, fun _ => rfl⟩)
  case F =>
    intro w mg fa h KX G hmg
    refine' K27.all_mk KX G hmg (KC.df ?a4 ?l4 ?c4 ?k4) (KC.df ?a5 ?l5 ?c5 ?k5) (KC.df ?a6 ?l6 ?c6 ?k6) (KC.df ?a8 ?l8 ?c8 ?k8) (KC.df ?a9 ?l9 ?c9 ?k9) (KC.df ?a10 ?l10 ?c10 ?k10) (KC.df ?a11 ?l11 ?c11 ?k11) (KC.df ?a12 ?l12 ?c12 ?k12) (KC.df ?a13 ?l13 ?c13 ?k13) (KC.df ?a14 ?l14 ?c14 ?k14) (KC.df ?a15 ?l15 ?c15 ?k15) (KC.df ?a16 ?l16 ?c16 ?k16) ?z0 ?z1 ?z2 ?z3 ?z4 ?z5 ?z6 ?z7 ?z8 ?z9 ?z10 ?m0 ?m1 ?m2
    (case a4 => k_is); (case l4 => k_is); (case c4 => k_is); (case k4 => k_is)
    (case a5 => k_is); (case l5 => k_is); (case c5 => k_is); (case k5 => k_is)
    (case a6 => k_is); (case l6 => k_is); (case c6 => k_is); (case k6 => k_is)
    (case a8 => k_is); (case l8 => k_is); (case c8 => k_is); (case k8 => k_is)
    (case a9 => k_is); (case l9 => k_is); (case c9 => k_is); (case k9 => k_is)
    (case a10 => k_is); (case l10 => k_is); (case c10 => k_is); (case k10 => k_is)
    (case a11 => k_is); (case l11 => k_is); (case c11 => k_is); (case k11 => k_is)
    (case a12 => k_is); (case l12 => k_is); (case c12 => k_is); (case k12 => k_is)
    (case a13 => k_is); (case l13 => k_is); (case c13 => k_is); (case k13 => k_is)
    (case a14 => k_is); (case l14 => k_is); (case c14 => k_is); (case k14 => k_is)
    (case a15 => k_is); (case l15 => k_is); (case c15 => k_is); (case k15 => k_is)
    (case a16 => k_is); (case l16 => k_is); (case c16 => k_is); (case k16 => k_is)
    (case z0 => k_is)
    (case z1 => k_is)
    (case z2 => k_is)
    (case z3 => k_is)
    (case z4 => k_is)
    (case z5 => k_is)
    (case z6 => k_is)
    (case z7 => k_is)
    (case z8 => k_is)
    (case z9 => k_is)
    (case z10 => k_is)
    (case m0 => k_is)
    (case m1 => k_is)
    (case m2 => k_is)
