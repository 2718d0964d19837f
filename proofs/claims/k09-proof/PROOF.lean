import PyProof.Rows.All
import Wide.All
import OpenK.AllK
import Wide.FinOn
import HandS.ForMost
import HandS.More
import HandS.Defaults
import HandS.IsInst
import HandS.WideBits
import HandS.Wide
import HandS.Style
import HandS.TupAny
import HandS.StrMore
import HandS.SetKeys
import HandS.SetBool
import HandS.Flow
import HandS.RaiseOp
import HandS.Zip
import HandS.Walk
import HandS.Conv
import HandS.EndBits
import HandS.Evl
import HandS.SortKw
import KE.DatumOrd
import HandS.HeadHook4
import KE.IntTextText
import KE.KIntText
import PyProof.Rows.SortShellAny
import HandS.Strs
import HandS.Replace
import HandS.Star
import HandS.HeadEnd
import HandS.HeadWalk
import KE.DatumIndex
import PyProof.StrLawsRepr
import HandS.Dict
import KE.KStrOpen
import PyProof.ReprLen
import PyProof.ListStr
import PyProof.TupleOfStr
import PyProof.Rows.IntBool
import HandS.Deep
import HandS.DictComp
import HandS.Comp
import HandS.List
import HandS.Head0
import HandS.Head1
import HandS.Head2
import HandS.HeadHook1
import HandS.HeadHook2
import HandS.HeadHook3
import PyProof.StrLawsIn
import PySem.Challenge.RW_contentnames_k09_known_sayings
set_option Elab.async false
set_option linter.all false
set_option maxRecDepth 100000
set_option maxHeartbeats 4000000
namespace V
open PySem PySem.Spec PyProof.Rows L2 Evl
/-! ### defs of the top, called by their names -/
/-- the def of this name stands at the top -/
structure Def (K : PySem.W.Frag) (mg : Str → Option Value) (x : Str) (st : Stmt) (ps : List Str) : Prop where
  ex : ∃ (f : Addr) (fd : FuncData), FunD K x x (defArgs st) (defBody st) (defScope st) [] [] f fd ∧ mg x = some (.ref f) ∧ Binds K fd ps []
/-- .. and keeps this promise, with k calls within one another -/
structure Cal (P : Program) (w : World) (K : PySem.W.Frag) (mg : Str → Option Value) (base : Heap) (k : Nat) (x : Str) (ps : List Str) (sp : Sp) : Prop where
  ex : ∃ (f : Addr) (fd : FuncData), FnOk P w K mg base CX0 k f fd ps sp ∧ mg x = some (.ref f) ∧ PySem.W.keepIn K (.ref f) = true ∧ Binds K fd ps []
section
variable {P : Program} {w : World} {K : PySem.W.Frag} {mg : Str → Option Value} {base : Heap} {x : Str} {st : Stmt} {ps N : List Str} {k : Nat} {sp sp' : Sp}
theorem Def.cal (D : Def K mg x st ps) (S : FnScope N ps (defScope st)) (len : ∀ vs H Q E, sp vs H Q E → vs.length = ps.length)
    (body : ∀ (f : Addr) (cdv : Value) (A : Around) (outer : List Env) (s : Shared) (H : Hp) (vs : List V) (Q : VK) (E : XK),
      Room k (A.deeper (envOfC x (defScope st) s.heap.objs.size f cdv)) → sp vs H Q E →
      ∃ t, PSs (cxOf CX0 P w K mg base N x (defScope st) f cdv A outer s H E).nox (defBody st) t ∧
        t { nx := fun _ H' => Q .non H', rt := Q } (start N vs) H) : Cal P w K mg base (k + 1) x ps sp := by
  obtain ⟨f, fd, F, hm, hb⟩ := D.ex
  refine ⟨f, fd, F.ok S len (fun cdv A outer s H vs Q E hr h => ?_), hm, F.kp, hb⟩
  obtain ⟨t, h1, h2⟩ := body f cdv A outer s H vs Q E hr h
  exact ⟨t, h1.nox, h2⟩
theorem Cal.mono {j : Nat} (C : Cal P w K mg base j x ps sp) (h : j ≤ k) : Cal P w K mg base k x ps sp := by
  obtain ⟨f, fd, F, h1, h2, h3⟩ := C.ex
  exact ⟨f, fd, F.mono h, h1, h2, h3⟩
theorem Cal.imp (C : Cal P w K mg base k x ps sp) (h : ∀ vs H Q E, sp' vs H Q E → sp vs H Q E) : Cal P w K mg base k x ps sp' := by
  obtain ⟨f, fd, F, h1, h2, h3⟩ := C.ex
  exact ⟨f, fd, F.imp h, h1, h2, h3⟩
/-- nothing is promised: none may call it -/
theorem Def.never (D : Def K mg x st ps) (no : ∀ vs H Q E, ¬ sp vs H Q E) : Cal P w K mg base 0 x ps sp := by
  obtain ⟨f, fd, F, hm, hb⟩ := D.ex
  exact ⟨f, fd, ⟨fun vs H Q E h => absurd h (no vs H Q E), fun A outer s H args us vs Q E _ _ _ _ h => absurd h (no vs H Q E)⟩, hm, F.kp, hb⟩
end
/-- its call -/
def tFn (sp : Sp) (t : TA) : TE := fun σ H Q => t σ H fun vs H1 => sp vs H1 Q E0
section
variable {X : Cx}
theorem pe_fn {j k : Nat} {x : Str} {ps : List Str} {sp : Sp} {e : Expr} {es : List Expr} {t : TA} {p pos : Pos} (C : Cal X.prog X.w X.K X.mg X.base k x ps sp) (hr : Room j X.A) (hk : k ≤ j) (ha : PA X (e :: es) t)
    (hg : Gl X x := by rfl) (hdb : (x == ("__debug__" : Str)) = false := by decide) (he : starEach (e :: es) X.env = (false, eval e X.env) :: starEach es X.env := by rfl)
    (hpl : (backTo pos (starEach es X.env)).any (·.1) = false := by rfl) : PE X (.Call (.Name x p) (e :: es) [] pos) (tFn sp t) := by
  obtain ⟨f, fd, F, h1, h2, h3⟩ := C.ex
  have h := pe_call (ds := []) (dvs := []) (E := E0) (p := p) F (hr.mono hk) hg h1 h2 h3 .nil pass0 ha hdb he hpl
  refine ⟨fun pins s σ H Q I q => h.run pins s σ H Q I ?_⟩
  have e1 : (fun (vs : List V) (H1 : Hp) => sp (vs ++ []) H1 Q E0) = fun vs H1 => sp vs H1 Q E0 := by
    funext vs H1
    rw [List.append_nil]
  show t σ H fun vs H1 => sp (vs ++ []) H1 Q E0
  rw [e1]
  exact q
/-- a built-in function, a built-in type, called -/
theorem pe_bi {id : String} {r : List V → Hp → VK → Prop} {x : Str} {e : Expr} {es : List Expr} {t : TA} {p pos : Pos} (hc : CallR X (.builtin id) r) (hm : X.mg x = none) (ha : PA X (e :: es) t) (hg : Gl X x := by rfl)
    (hv : bootBuiltins x = some (.builtin id) := by decide +kernel) (hn : x ≠ "__name__" := by decide) (hdb : (x == ("__debug__" : Str)) = false := by decide)
    (he : starEach (e :: es) X.env = (false, eval e X.env) :: starEach es X.env := by rfl) (hpl : (backTo pos (starEach es X.env)).any (·.1) = false := by rfl) : PE X (.Call (.Name x p) (e :: es) [] pos) (tCB r t) :=
  pe_callB hc hg hm hv ha hn hdb he hpl
theorem pe_bt {T : String} {r : List V → Hp → VK → Prop} {x : Str} {e : Expr} {es : List Expr} {t : TA} {p pos : Pos} (hc : CallR X (.type T) r) (hm : X.mg x = none) (ha : PA X (e :: es) t) (hg : Gl X x := by rfl)
    (hv : bootBuiltins x = some (.type T) := by decide +kernel) (hn : x ≠ "__name__" := by decide) (hdb : (x == ("__debug__" : Str)) = false := by decide)
    (he : starEach (e :: es) X.env = (false, eval e X.env) :: starEach es X.env := by rfl) (hpl : (backTo pos (starEach es X.env)).any (·.1) = false := by rfl) : PE X (.Call (.Name x p) (e :: es) [] pos) (tCB r t) :=
  pe_callTy hc hg hm hv ha hn hdb he hpl
theorem ev_fn {sp : Sp} {σ : L2.St} {H : Hp} {vs : List V} {z : V} {ta : TA} (h : EvA ta σ H vs) (hs : SpV sp vs H z) : Ev (tFn sp ta) σ H z := fun H1 e Q q =>
  h H1 e _ fun H2 e2 => hs H2 (e.trans e2) Q (fun H3 e3 => q H3 (e2.trans e3)) E0
theorem el_fn {sp : Sp} {σ : L2.St} {H : Hp} {vs xs : List V} {ta : TA} (h : EvA ta σ H vs) (hs : SpL sp vs H xs) : EvL (tFn sp ta) σ H xs := fun H1 e Q q =>
  h H1 e _ fun H2 e2 => hs H2 (e.trans e2) Q (fun p H3 hp e3 h3 => q p H3 (fresh_back e2 hp) (e2.trans e3) h3) E0
end
theorem sz (n : Nat) (h : n ≤ 1000 := by decide) : n ≤ sizeLine := Nat.le_of_lt (small1000 h)
theorem at0 {α : Type} {x : α} {r : List α} : atI (x :: r) 0 = some x := atI_nat (j := 0) rfl
theorem at1 {α : Type} {x y : α} {r : List α} : atI (x :: y :: r) 1 = some y := atI_nat (j := 1) rfl
theorem at2 {α : Type} {x y z : α} {r : List α} : atI (x :: y :: z :: r) 2 = some z := atI_nat (j := 2) rfl
/-- a turn of a comprehension without a test -/
theorem yes {σ : L2.St} {H : Hp} {A B : Hp → Prop} (h : A H) : tYes σ H fun b H3 => if b = true then A H3 else B H3 := by
  show (fun b H3 => if b = true then A H3 else B H3) true H
  exact iteT h
/-! ### heaps -/
/-- all that was tracked but at b is as it was -/
def But (b : Addr) (H H' : Hp) : Prop := ∀ c o, c ≠ b → H c = some o → H' c = some o
theorem But.refl (b : Addr) (H : Hp) : But b H H := fun _ _ _ h => h
theorem But.trans {b : Addr} {H H1 H2 : Hp} (x : But b H H1) (y : But b H1 H2) : But b H H2 := fun c o n h => y c o n (x c o n h)
theorem But.of {b : Addr} {H H' : Hp} (e : Ex H H') : But b H H' := fun c o _ h => e c o h
theorem But.upd {b : Addr} {H H' : Hp} {o : HO} (e : But b H H') : But b H (upd H' b o) := fun c u n h => by
  rw [upd_ne n]
  exact e c u n h
/-- the tuples stay -/
def Tu (H H' : Hp) : Prop := ∀ c xs, H c = some (.tup xs) → H' c = some (.tup xs)
theorem Tu.refl (H : Hp) : Tu H H := fun _ _ h => h
theorem Tu.trans {H H1 H2 : Hp} (x : Tu H H1) (y : Tu H1 H2) : Tu H H2 := fun c xs h => y c xs (x c xs h)
theorem Tu.of {H H' : Hp} (e : Ex H H') : Tu H H' := fun c _ h => e c _ h
theorem But.tu {b : Addr} {xs : List V} {H H' : Hp} (e : But b H H') (hb : H b = some (.lst xs)) : Tu H H' := fun c ys h => e c _ (fun z => by
  rw [z, hb] at h
  cases h) h
end V


set_option Elab.async false
set_option linter.all false
set_option maxRecDepth 100000
set_option maxHeartbeats 4000000
namespace V
open PySem PySem.Spec PyProof.Rows L2 Evl
/-! ### max(numbers, default=d) -/
def rMaxDf (K : PySem.W.Frag) : List V → List V → Hp → VK → Prop := fun vs zs H Q => ∃ (a : Addr) (ns : List Int) (d : Int), vs = [V.ref a] ∧ zs = [V.int d] ∧ SqL K H a (ns.map V.int) ∧
  (ns = [] → Q (.int d) H) ∧ ∀ m, m ∈ ns → (∀ y, y ∈ ns → y ≤ m) → Q (.int m) H
theorem top_of : ∀ (xs : List Int) (x : Int), (xs.foldl (fun a y => if PySem.W.DatumOrd.lt a y = true then y else a) x) ∈ x :: xs ∧ ∀ y ∈ x :: xs, y ≤ xs.foldl (fun a y => if PySem.W.DatumOrd.lt a y = true then y else a) x
  | [], x => ⟨List.mem_cons_self .., fun y h => by
    rw [List.mem_singleton.mp h]
    exact Int.le_refl _⟩
  | z :: xs, x => by
    obtain ⟨h1, h2⟩ := top_of xs (if PySem.W.DatumOrd.lt x z = true then z else x)
    rw [List.foldl_cons]
    generalize List.foldl (fun a y => if PySem.W.DatumOrd.lt a y = true then y else a) (if PySem.W.DatumOrd.lt x z = true then z else x) xs = top at h1 h2 ⊢
    have lt_is : PySem.W.DatumOrd.lt x z = decide (x < z) := rfl
    have h3 := h2 _ (List.mem_cons_self ..)
    rw [lt_is] at h1 h3
    by_cases c : x < z
    · rw [if_pos (decide_eq_true c)] at h1 h3
      refine ⟨List.mem_cons_of_mem _ h1, fun y hy => ?_⟩
      rcases List.mem_cons.mp hy with rfl | hy
      · omega
      · rcases List.mem_cons.mp hy with rfl | hy
        · exact h3
        · exact h2 y (List.mem_cons_of_mem _ hy)
    · rw [if_neg (by rw [decide_eq_true_eq]; exact c)] at h1 h3
      refine ⟨?_, fun y hy => ?_⟩
      · rcases List.mem_cons.mp h1 with e | h1
        · rw [e]
          exact List.mem_cons_self ..
        · exact List.mem_cons_of_mem _ (List.mem_cons_of_mem _ h1)
      · rcases List.mem_cons.mp hy with rfl | hy
        · exact h3
        · rcases List.mem_cons.mp hy with rfl | hy
          · omega
          · exact h2 y (List.mem_cons_of_mem _ hy)
section
variable {X : Cx}
theorem cr_maxDf (hc : X.calm = true) (hu : X.A.units + 64 < cLine) : CallRK X (.builtin "max") ["default"] (rMaxDf X.K) := by
  intro pins s σ H vs zs us ws Q I r rz h
  obtain ⟨a, ns, d, rfl, rfl, hs, q0, q⟩ := h
  obtain ⟨its, rv, hl, _⟩ := I.list hs
  obtain ⟨u, rfl, t, rfl⟩ := vals1 rz
  rw [Vals.ref1 r]
  refine PySem.W.max_list_datum_default (xs := ns) (I.ok.hd hc) hl.isList (PySem.W.HoldAll.of_ints (by simpa using rv.ints)) (by show X.A.units + 1 + 0 < cLine; omega) (fun e h' tk hk => ?_) fun y ys i v h' tk e hi hh hk => ?_
  · exact ⟨.int d, H, I.kept hk, ⟨_, rfl⟩, q0 e⟩
  · have hv : ∃ t', v = .int (PySem.W.maxOf y ys) t' := by
      have ha : PySem.W.HoldAll h' [v] [PySem.W.maxOf y ys] := .cons hh .nil
      have hb := PySem.W.HoldAll.toInts ha
      cases hb with
      | cons n t _ => exact ⟨t, rfl⟩
    have hm := top_of ys y
    subst e
    exact ⟨.int (PySem.W.maxOf y ys), H, I.kept hk, hv, q _ hm.1 hm.2⟩
/-- .. as it's written: one argument, one keyword -/
theorem pe_maxDf {e : Expr} {es : List Expr} {kws : List Keyword} {t tk : TA} {p pos : Pos} (hc : X.calm = true) (hu : X.A.units + 64 < cLine) (hm : X.mg "max" = none) (ha : PA X (e :: es) t) (hk : PK X kws tk) (hg : Gl X "max" := by rfl)
    (h1 : backTo pos (starEach (e :: es) X.env) = (false, eval e X.env) :: backTo pos (starEach es X.env) := by rfl) (h2 : (backTo pos (starEach (e :: es) X.env)).any (·.1) = false := by rfl)
    (h3 : (backToKw pos (keywordEach kws X.env)).all (·.1.isSome) = true := by rfl) (h4 : (backToKw pos (keywordEach kws X.env)).any (·.1.isNone) = false := by rfl)
    (h5 : (backToKw pos (keywordEach kws X.env)).filterMap (·.1) = (["default"] : List Str) := by rfl) :
    PE X (.Call (.Name "max" p) (e :: es) kws pos) (tCKw (rMaxDf X.K) t tk) :=
  pe_callBK (cr_maxDf hc hu) hg hm (by decide +kernel) ha hk (by decide) (by decide) h1 h2 h3 h4 h5
end
end V


set_option Elab.async false
set_option linter.all false
set_option maxRecDepth 100000
set_option maxHeartbeats 4000000
namespace V
open PySem PySem.Spec PyProof.Rows L2 Evl
/-! ### terms -/
inductive Op where
  | add | less | times | under | cond
  deriving DecidableEq
def Op.str : Op → Str
  | .add => "add" | .less => "less" | .times => "times" | .under => "under" | .cond => "if"
def Op.ar : Op → Nat
  | .cond => 3
  | _ => 2
inductive Hd where
  | op (o : Op) | call (m : Str) | ring (p : Nat)
  deriving DecidableEq
inductive Tm where
  | num (n : Nat) | arg (k : Nat) | node (h : Hd) (ts : List Tm)
theorem Tm.ind {M : Tm → Prop} (h1 : ∀ n, M (.num n)) (h2 : ∀ k, M (.arg k)) (h3 : ∀ h ts, (∀ t ∈ ts, M t) → M (.node h ts)) : ∀ t, M t
  | .num n => h1 n
  | .arg k => h2 k
  | .node h ts => h3 h ts fun t ht => by
    have : sizeOf t < sizeOf (Tm.node h ts) := by
      have := List.sizeOf_lt_of_mem ht
      simp only [Tm.node.sizeOf_spec]
      omega
    exact Tm.ind h1 h2 h3 t
termination_by t => sizeOf t
def Tm.parts : Tm → List Tm
  | .node _ ts => ts
  | _ => []
mutual
def Tm.deep : Tm → Nat
  | .num _ => 1
  | .arg _ => 1
  | .node _ ts => 1 + Tm.deeps ts
def Tm.deeps : List Tm → Nat
  | [] => 0
  | t :: ts => max t.deep (Tm.deeps ts)
end
mutual
def Tm.size : Tm → Nat
  | .num _ => 1
  | .arg _ => 1
  | .node _ ts => 1 + Tm.sizes ts
def Tm.sizes : List Tm → Nat
  | [] => 0
  | t :: ts => t.size + Tm.sizes ts
end
mutual
/-- it and all in it, from left to right -/
def Tm.all : Tm → List Tm
  | .num n => [.num n]
  | .arg k => [.arg k]
  | .node h ts => .node h ts :: Tm.alls ts
def Tm.alls : List Tm → List Tm
  | [] => []
  | t :: ts => t.all ++ Tm.alls ts
end
/-- a mark: six figures or letters -/
def isMk (m : Str) : Prop := m.length = 6 ∧ ∀ c ∈ m.cps.toList, (48 ≤ c ∧ c ≤ 57) ∨ (97 ≤ c ∧ c ≤ 122)
def Hd.ok (M : Nat) : Hd → Nat → Prop
  | .op o, n => n = o.ar
  | .call m, n => isMk m ∧ n ≤ 4
  | .ring p, n => p ≤ M ∧ n ≤ 4
/-- as terms are, places to M -/
inductive Tm.Ok (M : Nat) : Tm → Prop where
  | num {n : Nat} : n ≤ 1000002 → Tm.Ok M (.num n)
  | arg {k : Nat} : k ≤ 3 → Tm.Ok M (.arg k)
  | node {h : Hd} {ts : List Tm} : h.ok M ts.length → (∀ t ∈ ts, Tm.Ok M t) → Tm.Ok M (.node h ts)
theorem Hd.ok.le {M : Nat} {h : Hd} {n : Nat} (k : h.ok M n) : n ≤ 4 := by
  cases h with
  | op o =>
    have e : n = o.ar := k
    rw [e]
    cases o <;> decide
  | call m => exact k.2
  | ring p => exact k.2
theorem deep_pos : ∀ t : Tm, 1 ≤ t.deep
  | .num _ => Nat.le_refl _
  | .arg _ => Nat.le_refl _
  | .node h ts => by
    show 1 ≤ 1 + Tm.deeps ts
    omega
theorem deep_le {t : Tm} {ts : List Tm} (h : t ∈ ts) : t.deep ≤ Tm.deeps ts := by
  induction ts with
  | nil => cases h
  | cons u us ih =>
    show t.deep ≤ max u.deep (Tm.deeps us)
    rcases List.mem_cons.mp h with rfl | h
    · omega
    · have := ih h
      omega
theorem all_len : ∀ t : Tm, t.all.length = t.size
  | .num _ => rfl
  | .arg _ => rfl
  | .node h ts => by
    have alls_len : ∀ us : List Tm, (∀ u ∈ us, u.all.length = u.size) → (Tm.alls us).length = Tm.sizes us := by
      intro us
      induction us with
      | nil => intro _; rfl
      | cons u us ih =>
        intro hu
        show (u.all ++ Tm.alls us).length = u.size + Tm.sizes us
        rw [List.length_append, hu u (List.mem_cons_self ..), ih fun v hv => hu v (List.mem_cons_of_mem _ hv)]
    show (Tm.alls ts).length + 1 = 1 + Tm.sizes ts
    rw [alls_len ts fun u hu => all_len u]
    omega
/-! ### terms as they lie -/
mutual
/-- v is the term t -/
inductive TmAt (H : Hp) : V → Tm → Prop where
  | num {a : Addr} {n : Nat} : H a = some (.tup [.str "num", .int (n : Int)]) → TmAt H (.ref a) (.num n)
  | arg {a : Addr} {k : Nat} : H a = some (.tup [.str "arg", .int (k : Int)]) → TmAt H (.ref a) (.arg k)
  | op {a : Addr} {o : Op} {vs : List V} {ts : List Tm} : H a = some (.tup (.str o.str :: vs)) → TmsAt H vs ts → TmAt H (.ref a) (.node (.op o) ts)
  | call {a p : Addr} {m : Str} {vs : List V} {ts : List Tm} : H a = some (.tup [.str "call", .str m, .ref p]) → H p = some (.tup vs) → TmsAt H vs ts → TmAt H (.ref a) (.node (.call m) ts)
  | ring {a p : Addr} {k : Nat} {vs : List V} {ts : List Tm} : H a = some (.tup [.str "ring", .int (k : Int), .ref p]) → H p = some (.tup vs) → TmsAt H vs ts → TmAt H (.ref a) (.node (.ring k) ts)
inductive TmsAt (H : Hp) : List V → List Tm → Prop where
  | nil : TmsAt H [] []
  | cons {v : V} {vs : List V} {t : Tm} {ts : List Tm} : TmAt H v t → TmsAt H vs ts → TmsAt H (v :: vs) (t :: ts)
end
mutual
theorem TmAt.tu {H H' : Hp} (e : Tu H H') : ∀ {v : V} {t : Tm}, TmAt H v t → TmAt H' v t
  | _, _, .num h => .num (e _ _ h)
  | _, _, .arg h => .arg (e _ _ h)
  | _, _, .op h hs => .op (e _ _ h) (hs.tu e)
  | _, _, .call h hp hs => .call (e _ _ h) (e _ _ hp) (hs.tu e)
  | _, _, .ring h hp hs => .ring (e _ _ h) (e _ _ hp) (hs.tu e)
theorem TmsAt.tu {H H' : Hp} (e : Tu H H') : ∀ {vs : List V} {ts : List Tm}, TmsAt H vs ts → TmsAt H' vs ts
  | _, _, .nil => .nil
  | _, _, .cons h hs => .cons (h.tu e) (hs.tu e)
end
theorem TmAt.ex {H H' : Hp} {v : V} {t : Tm} (h : TmAt H v t) (e : Ex H H') : TmAt H' v t := h.tu (Tu.of e)
theorem TmsAt.ex {H H' : Hp} {vs : List V} {ts : List Tm} (h : TmsAt H vs ts) (e : Ex H H') : TmsAt H' vs ts := h.tu (Tu.of e)
theorem TmsAt.length {H : Hp} : ∀ {vs : List V} {ts : List Tm}, TmsAt H vs ts → vs.length = ts.length
  | _, _, .nil => rfl
  | _, _, .cons _ hs => by rw [List.length_cons, List.length_cons, hs.length]
theorem TmsAt.get {H : Hp} : ∀ {vs : List V} {ts : List Tm}, TmsAt H vs ts → ∀ {i : Nat} {v : V}, vs[i]? = some v → ∃ t, ts[i]? = some t ∧ TmAt H v t
  | _, _, .nil, i, v, e => by simp at e
  | _, _, .cons h hs, 0, v, e => by
    cases Option.some.inj e
    exact ⟨_, rfl, h⟩
  | _, _, .cons h hs, i + 1, v, e => hs.get (i := i) (v := v) e
theorem TmsAt.append {H : Hp} : ∀ {vs ws : List V} {ts us : List Tm}, TmsAt H vs ts → TmsAt H ws us → TmsAt H (vs ++ ws) (ts ++ us)
  | _, _, _, _, .nil, q => q
  | _, _, _, _, .cons h hs, q => .cons h (hs.append q)
theorem TmsAt.take {H : Hp} : ∀ {vs : List V} {ts : List Tm} (n : Nat), TmsAt H vs ts → TmsAt H (vs.take n) (ts.take n)
  | _, _, 0, _ => .nil
  | _, _, _ + 1, .nil => .nil
  | _, _, n + 1, .cons h hs => .cons h (hs.take n)
theorem TmsAt.drop {H : Hp} : ∀ {vs : List V} {ts : List Tm} (n : Nat), TmsAt H vs ts → TmsAt H (vs.drop n) (ts.drop n)
  | _, _, 0, h => h
  | _, _, _ + 1, .nil => .nil
  | _, _, n + 1, .cons _ hs => hs.drop n
/-! ### the words of operations -/
def opWords : List Str := ["add", "less", "times", "under", "if"]
theorem dic_at {K : PySem.W.Frag} {a : Addr} {ls : List (Option (Str × Int))} (h : He.dicW K a = some ls) :
    ∃ oc od es n sl, K.lookup a = some ⟨oc, od, .dict es n, sl⟩ ∧ es.toList.map He.keyOf = ls := by
  unfold He.dicW at h
  split at h
  · rename_i c es n sl q
    split at h
    · exact ⟨_, _, es, n, sl, q, Option.some.inj h⟩
    · cases h
  · cases h
theorem find_key {P : Params} {z : Str} : ∀ {l : List DictEntry} {ks : List Str}, l.map He.keyOf = He.keysIn P ks →
    (l.find? (·.key.isStr z)).isSome = decide (z ∈ ks) ∧ l.any (·.refKey) = false
  | [], [], _ => ⟨rfl, rfl⟩
  | [], _ :: _, e => by cases e
  | _ :: _, [], e => by cases e
  | e :: l, k :: ks, h => by
    have h1 : He.keyOf e :: l.map He.keyOf = some (k, PyData.keyHash P k) :: He.keysIn P ks := h
    injection h1 with h2 h3
    obtain ⟨i1, i2⟩ := find_key (z := z) h3
    have hk : ∃ t, e.key = .str k t := by
      unfold He.keyOf at h2
      split at h2
      · rename_i x t q
        have := (Prod.mk.inj (Option.some.inj h2)).1
        exact ⟨t, by rw [q, this]⟩
      · cases h2
    obtain ⟨t, hk⟩ := hk
    have hs : e.key.isStr z = decide (k = z) := by
      rw [hk]
      first
        | rfl
        | (simp only [Value.isStr]; rw [Bool.eq_iff_iff]; simp)
    refine ⟨?_, ?_⟩
    · rw [List.find?_cons, hs]
      by_cases c : k = z
      · subst c
        simp
      · have c' : ¬ z = k := fun x => c x.symm
        rw [decide_eq_false c]
        simp only [List.mem_cons, c', false_or]
        exact i1
    · rw [List.any_cons, i2, Bool.or_false]
      unfold DictEntry.refKey
      rw [hk] <;> rfl
theorem isSome_mem {K : PySem.W.Frag} {P : Params} {a : Addr} {ks : List Str} (h : He.dicW K a = some (He.keysIn P ks)) (z : Str) : ∃ r, PySem.W.nsIn K a z = some r ∧ r.isSome = decide (z ∈ ks) := by
  obtain ⟨oc, od, es, n, sl, q, e⟩ := dic_at h
  obtain ⟨f1, f2⟩ := find_key (z := z) e
  unfold PySem.W.nsIn
  rw [q]
  dsimp only
  cases g : es.toList.find? (·.key.isStr z) with
  | some d =>
    rw [g] at f1
    exact ⟨some d.val, rfl, f1⟩
  | none =>
    rw [g] at f1
    rw [f2]
    exact ⟨none, rfl, f1⟩
/-- the table of operations, as the module has it -/
structure Ops (K : PySem.W.Frag) (w : World) (mg : Str → Option Value) : Prop where
  ex : ∃ (d : Addr) (es : Array DictEntry) (n : Nat), mg "OPERATIONS" = some (.ref d) ∧ KDict K w d es n ∧ (∀ z : Str, ∃ r, PySem.W.nsIn K d z = some r ∧ r.isSome = decide (z ∈ opWords)) ∧
    ∀ o : Op, ∃ u, PySem.W.nsIn K d o.str = some (some u) ∧ RelV (.int (o.ar : Int)) u
/-- the module's name x is a tuple, without a __dict__ -/
def tupN (K : PySem.W.Frag) (x : Str) : Bool := match K.lookup (He.ga K x) with
  | some ⟨.type c, none, _, _⟩ => decide (c = "tuple")
  | _ => false
theorem tupN_ok {K : PySem.W.Frag} {x : Str} (h : tupN K x = true) : ∃ o, K.lookup (He.ga K x) = some o ∧ o.cls = .type "tuple" ∧ o.dict = none := by
  unfold tupN at h
  cases q : K.lookup (He.ga K x) with
  | none =>
    rw [q] at h
    cases h
  | some o =>
    obtain ⟨oc, od, dt, osl⟩ := o
    rw [q] at h
    cases oc with
    | type c =>
      cases od with
      | none => exact ⟨_, rfl, congrArg Value.type (of_decide_eq_true h), rfl⟩
      | some a => cases h
    | _ => cases od <;> cases h
end V


set_option Elab.async false
set_option linter.all false
set_option maxRecDepth 100000
set_option maxHeartbeats 4000000
namespace V
open PySem PySem.Spec PyProof.Rows L2 Evl TL NumText
/-! ### texts of terms -/
/-- the figures of a number -/
def nt (n : Nat) : Str := Str.ofString (toString (n : Int))
def dig (n : Nat) : List Nat := (Nat.toDigits 10 n).map Char.toNat
theorem tl_nt (n : Nat) : tl (nt n) = dig n := PySem.W.KIN.signs_num n
theorem dig_all (n : Nat) : AllDigits (dig n) := by
  intro c hc
  obtain ⟨ch, hch, e⟩ := List.mem_map.mp hc
  have r := PyProof.Rows.digit_range (Nat.isDigit_of_mem_toDigits (by decide) (by decide) hch)
  rw [← e]
  exact r
theorem dig_ne (n : Nat) : dig n ≠ [] := fun e => by
  have h := toDigits_len_ge 10 n
  rw [List.map_eq_nil_iff.mp e] at h
  exact absurd h (by decide)
theorem dig_len {n : Nat} (h : n < 10000000) : (dig n).length ≤ 7 := by
  unfold dig
  rw [List.length_map]
  exact toDigits_len_pow (by decide) (by decide) (by show n < 10 ^ 7; omega)
theorem nt_len {n : Nat} (h : n < 10000000) : (nt n).length ≤ 7 := by
  rw [len_tl, tl_nt]
  exact dig_len h
def letter (k : Nat) : Str := (["a", "b", "c", "d"] : List Str).getD k "a"
def Hd.S : Hd → Str
  | .op o => o.str
  | .call m => "#" ++ m
  | .ring p => "@" ++ nt p
mutual
def Tm.txt : Tm → Str
  | .num n => nt n
  | .arg k => letter k
  | .node h ts => ("(" : Str) ++ Str.join " " (h.S :: Tm.txts ts) ++ ")"
def Tm.txts : List Tm → List Str
  | [] => []
  | t :: ts => t.txt :: Tm.txts ts
end
theorem txts_map (ts : List Tm) : Tm.txts ts = ts.map Tm.txt := by
  induction ts with
  | nil => rfl
  | cons t ts ih =>
    show t.txt :: Tm.txts ts = t.txt :: ts.map Tm.txt
    rw [ih]
theorem str_len_append (a b : Str) : (a ++ b).length = a.length + b.length := by
  rw [len_tl, len_tl, len_tl, tl_append, List.length_append]
theorem join_len (ys : List Str) : (Str.join " " ys).length ≤ (ys.map (·.length)).sum + ys.length := by
  have h := StrLaws.join_length_le " " ys
  have e : (" " : Str).length = 1 := by decide +kernel
  rw [e, Nat.mul_one] at h
  exact h
theorem letter_len {k : Nat} (h : k ≤ 3) : (letter k).length = 1 := by
  match k, h with
  | 0, _ => decide +kernel
  | 1, _ => decide +kernel
  | 2, _ => decide +kernel
  | 3, _ => decide +kernel
  | n + 4, h => omega
theorem Hd.S_len {M n : Nat} {h : Hd} (k : h.ok M n) (hM : M ≤ 1000000) : h.S.length ≤ 8 := by
  cases h with
  | op o => cases o <;> decide +kernel
  | call m =>
    show (("#" : Str) ++ m).length ≤ 8
    rw [str_len_append, k.1.1]
    decide +kernel
  | ring p =>
    show (("@" : Str) ++ nt p).length ≤ 8
    rw [str_len_append]
    have h1 : p ≤ M := k.1
    have := nt_len (n := p) (by omega)
    have e : ("@" : Str).length = 1 := by decide +kernel
    omega
theorem txt_len {M : Nat} (hM : M ≤ 1000000) : ∀ t : Tm, t.Ok M → t.txt.length ≤ 16 * t.size := by
  refine Tm.ind (fun n k => ?_) (fun j k => ?_) fun h ts ih k => ?_
  · cases k with
    | num hn =>
      show (nt n).length ≤ 16 * 1
      have := nt_len (n := n) (by omega)
      omega
  · cases k with
    | arg hk =>
      show (letter j).length ≤ 16 * 1
      rw [letter_len hk]
      omega
  · cases k with
    | node hh hks =>
      have sum : ∀ us : List Tm, (∀ u ∈ us, u.txt.length ≤ 16 * u.size) → ((Tm.txts us).map (·.length)).sum ≤ 16 * Tm.sizes us ∧ (Tm.txts us).length = us.length := by
        intro us
        induction us with
        | nil => intro _; exact ⟨Nat.le_refl _, rfl⟩
        | cons u us ih2 =>
          intro hu
          obtain ⟨i1, i2⟩ := ih2 fun v hv => hu v (List.mem_cons_of_mem _ hv)
          have h1 := hu u (List.mem_cons_self ..)
          refine ⟨?_, by show (Tm.txts us).length + 1 = us.length + 1; rw [i2]⟩
          show u.txt.length + ((Tm.txts us).map (·.length)).sum ≤ 16 * (u.size + Tm.sizes us)
          omega
      obtain ⟨s1, s2⟩ := sum ts fun u hu => ih u hu (hks u hu)
      show ((("(" : Str) ++ Str.join " " (h.S :: Tm.txts ts)) ++ ")").length ≤ 16 * (1 + Tm.sizes ts)
      rw [str_len_append, str_len_append]
      have j := join_len (h.S :: Tm.txts ts)
      rw [List.map_cons, List.sum_cons, List.length_cons] at j
      have e1 : ("(" : Str).length = 1 := by decide +kernel
      have e2 : (")" : Str).length = 1 := by decide +kernel
      have h4 := hh.le
      have h8 := Hd.S_len hh hM
      omega
theorem log_small {i : Int} (h0 : 0 ≤ i) (h1 : i < 10000000) : i.natAbs.log2 < 1920 := by
  have : i.natAbs < 2 ^ 24 := by
    have : (2 : Nat) ^ 24 = 16777216 := by decide
    omega
  exact Nat.lt_of_lt_of_le (PySem.Flt.log2_lt_of (by decide) this) (by decide)
theorem eq_word {a b : Str} : decide (V.str a = V.str b) = decide (a = b) := by
  rw [decide_eq_decide]
  exact ⟨V.str.inj, congrArg V.str⟩
end V


set_option Elab.async false
set_option linter.all false
set_option maxRecDepth 100000
set_option maxHeartbeats 4000000
/-! sets of texts: made, added to, by a comprehension, sorted -/
namespace VS
open PySem PySem.Spec PyProof.Rows L2 Evl
/-- the text of a member -/
def txO (m : Int × Value) : Str := match m.2 with
  | .str x _ => x
  | _ => Str.empty
def MemS (w : World) (m : Int × Value) : Prop := ∃ x t, m.2 = Value.str x t ∧ m.1 = hashStr w x
/-- a set of texts lies at a: S its members, n how many; its table rises, it can be walked -/
def SetS (w : World) (h : Heap) (a : Addr) (S : Str → Bool) (n : Nat) : Prop :=
  ∃ ob ms ep tb, h.get? a = some ob ∧ ob.ExactSet ∧ ob.data = .set ms ep tb ∧ (∀ m ∈ ms.toList, MemS w m) ∧ (ms.toList.map txO).Nodup ∧
    (∀ x, S x = true ↔ x ∈ ms.toList.map txO) ∧ ms.size < scanBound ∧ tb.fits ms.size = true ∧ ms.size = n ∧ Ris tb.place.toList ∧ (w.params.followText "set-order" = true ∨ tb.led = true)
section
variable {P : Program} {w : World} {h h' : Heap} {a : Addr} {S : Str → Bool} {n : Nat}
theorem SetS.keep (R : SetS w h a S n) (k : ∀ o, h.get? a = some o → h'.get? a = some o) : SetS w h' a S n := by
  obtain ⟨ob, ms, ep, tb, g, rest⟩ := R
  exact ⟨ob, ms, ep, tb, k ob g, rest⟩
theorem MemS.is {m : Int × Value} (g : MemS w m) (x : Str) : (PySem.strKind P w).is x m.2 = true ↔ txO m = x := by
  obtain ⟨y, t, e, _⟩ := g
  unfold txO
  rw [e]
  show (y == x) = true ↔ y = x
  exact beq_iff_eq
theorem elems_S {l : List (Int × Value)} (g : ∀ m ∈ l, MemS w m) : ElemsOf (PySem.strKind P w) l := fun m hm => by
  obtain ⟨y, t, e, eh⟩ := g m hm
  refine ⟨⟨y, ?_, eh⟩, ?_⟩
  · rw [e]
    exact PySem.strKind_is _ _ _ _
  · rw [e] <;> rfl
theorem in_S {l : List (Int × Value)} (g : ∀ m ∈ l, MemS w m) (x : Str) : x ∈ l.map txO ↔ ∃ m ∈ l, (PySem.strKind P w).is x m.2 = true := by
  rw [List.mem_map]
  exact ⟨fun ⟨m, hm, q⟩ => ⟨m, hm, ((g m hm).is x).2 q⟩, fun ⟨m, hm, q⟩ => ⟨m, hm, ((g m hm).is x).1 q⟩⟩
theorem SetS.of (R : SetS w h a S n) : h.SetOf (PySem.strKind P w) a S n := by
  obtain ⟨ob, ms, ep, tb, g, gx, gd, gm, _, gS, gb, gf, gn, _⟩ := R
  exact ⟨ob, ms, ep, tb, g, gx, gd, elems_S gm, fun x => (gS x).trans (in_S gm x), gb, gf, gn⟩
end
section
variable {P : Program} {w : World} {A : Around} {E : Value → Shared → Prop} {s : Shared} {a : Addr} {S : Str → Bool} {n : Nat}
theorem tail_S {gv : Bool → Sem Unit} (hgv : ∀ (b : Bool) (s₁ : Shared) (Q' : Unit → Shared → Prop), Q' () s₁ → wpAny (model P w) A (gv b) Q' E s₁)
    {ob : Obj} {ms : Array (Int × Value)} {ep : Nat} {tb : SetTable} (g : s.heap.get? a = some ob) (gx : ob.ExactSet) (gd : ob.data = .set ms ep tb)
    {ms1 : Array (Int × Value)} {tb2 : SetTable} {S' : Str → Bool} (q1 : ∀ m ∈ ms1.toList, MemS w m) (q2 : (ms1.toList.map txO).Nodup) (q3 : ∀ x, S' x = true ↔ x ∈ ms1.toList.map txO)
    (q4 : ms1.size < scanBound) (q5 : tb2.fits ms1.size = true) (q6 : Ris tb2.place.toList) (q7 : w.params.followText "set-order" = true ∨ tb2.led = true) {dmy : Bool} {R : Option Bool → Shared → Prop}
    (fin : ∀ h', Heap.SameBut a s.heap h' → SetS w h' a S' ms1.size → R (some true) { s with heap := h' }) :
    wpAny (model P w) A (do
        storeSet a ms1 tb2
        if (!dmy && tb2.tooFull) = true then do
            gv (relayAll tb2 ms1 (SetTable.grown ms1.size)).2.2
            storeSet a (relayAll tb2 ms1 (SetTable.grown ms1.size)).1 (relayAll tb2 ms1 (SetTable.grown ms1.size)).2.1
            pure (some true)
          else pure (some true)) R E s := by
  refine wpAny_bind (wpAny_storeSet_of g gd ?_ (fits_of_scanBound q4))
  have g1 := PpSet.storeB_at (es' := ms1) (t' := tb2) g gd
  have sb1 := Heap.SameBut.update s.heap a (Obj.putSet ms1 tb2)
  split
  · have p1 := relayAll_perm tb2 ms1 (SetTable.grown ms1.size)
    have p2 := relayAll_fits tb2 ms1 (SetTable.grown ms1.size)
    have p3 := relayAll_ris tb2 ms1 (SetTable.grown ms1.size)
    have p4 := relayAll_led tb2 ms1 (SetTable.grown ms1.size)
    generalize relayAll tb2 ms1 (SetTable.grown ms1.size) = Z at p1 p2 p3 p4 ⊢
    obtain ⟨ms2, tb3, gave⟩ := Z
    dsimp only at p1 p2 p3 p4 ⊢
    have z : ms2.size = ms1.size := by rw [← Array.length_toList, p1.length_eq, Array.length_toList]
    have b2 : ms2.size < scanBound := by rw [z]; exact q4
    refine wpAny_bind (hgv _ _ _ (wpAny_bind (wpAny_storeSet_of g1 rfl ?_ (fits_of_scanBound b2))))
    have g2 := PpSet.storeB_at (es' := ms2) (t' := tb3) g1 rfl
    exact wpAny_pure (fin _ (sb1.trans (Heap.SameBut.update _ a _)) ⟨_, ms2, _, tb3, g2, gx, rfl, fun m hm => q1 m (p1.mem_iff.mp hm), (p1.map txO).nodup_iff.mpr q2, fun x => (q3 x).trans (p1.map txO).mem_iff.symm, b2, p2, z, p3,
      q7.imp id fun y => by rw [p4]; exact y⟩)
  · exact wpAny_pure (fin _ sb1 ⟨_, ms1, _, tb2, g1, gx, rfl, q1, q2, q3, q4, q5, rfl, q6, q7⟩)
theorem addHashed_S {x : Str} {tk : Tok} {Q : Bool → Shared → Prop} (R : SetS w s.heap a S n) (room : n + 1 < scanBound)
    (hQ : ∀ h', Heap.SameBut a s.heap h' → SetS w h' a (fun y => S y || decide (y = x)) (if S x = true then n else n + 1) → Q (!S x) { s with heap := h' }) :
    wpAny (model P w) A (setAddHashed a (.str x tk) ((PySem.strKind P w).hash x)) Q E s := by
  obtain ⟨ob, ms, ep, tb, g, gx, gd, gm, gN, gS, gb, gf, gn, gR, gL⟩ := R
  have key : (PySem.strKind P w).is x (.str x tk) = true := PySem.strKind_is _ _ _ _
  have sc : (Value.str x tk).scannable = true := rfl
  have el : ElemsOf (PySem.strKind P w) ms.toList := elems_S gm
  unfold setAddHashed setAddHashedIn
  refine wpAny_holding (wpAny_bind (wpAny_setState_of g gd gf ?_))
  dsimp only
  rw [byScan_of sc gb el]
  simp only [↓reduceIte]
  unfold setAddByScan
  refine wpAny_bind (wpAny_bind (wpAny_rule (wpAny_bind (wpAny_setScan_of key g gd gf el ?_))))
  cases fi : List.findIdx? (fun m => (PySem.strKind P w).is x m.2) ms.toList with
  | some j =>
    dsimp only
    obtain ⟨j1, j2, _⟩ := List.findIdx?_eq_some_iff_getElem.mp fi
    have yes : S x = true := (gS x).2 ((in_S (P := P) gm x).2 ⟨ms.toList[j], List.getElem_mem j1, j2⟩)
    refine wpAny_pure (wpAny_pure ?_)
    have q := hQ s.heap (Heap.SameBut.refl a s.heap) ⟨ob, ms, ep, tb, g, gx, gd, gm, gN, fun y => by
      rw [Bool.or_eq_true, decide_eq_true_eq, ← gS y]
      exact ⟨fun z => z.elim id (fun e => e ▸ yes), .inl⟩, gb, gf, by rw [if_pos yes]; exact gn, gR, gL⟩
    rw [yes] at q
    exact q
  | none =>
    dsimp only
    have nx : x ∉ ms.toList.map txO := fun z => by
      obtain ⟨m, hm, q⟩ := (in_S (P := P) gm x).1 z
      have c := List.findIdx?_eq_none_iff.mp fi m hm
      rw [q] at c
      cases c
    have no : S x = false := by
      cases q : S x with
      | false => rfl
      | true => exact absurd ((gS x).1 q) nx
    have gw : ∀ (b : Bool) {s₁ : Shared} {Q' : Unit → Shared → Prop}, Q' () s₁ → wpAny (model P w) A (match b with | true => rule "set.scan.the-table-gave-way" | false => pure ()) Q' E s₁ :=
      fun b s₁ Q' q => by cases b <;> first | exact wpAny_pure q | exact wpAny_rule q
    have p1 := layNew_perm tb ms ((PySem.strKind P w).hash x) (.str x tk)
    have p2 := layNew_fits tb ms ((PySem.strKind P w).hash x) (.str x tk)
    have p3 := layNew_ris tb ms ((PySem.strKind P w).hash x) (.str x tk) gR
    have p4 := layNew_led tb ms ((PySem.strKind P w).hash x) (.str x tk)
    generalize layNew tb ms ((PySem.strKind P w).hash x) (.str x tk) = Z at p1 p2 p3 p4 ⊢
    obtain ⟨ms1, tb1, dmy, gave⟩ := Z
    dsimp only at p1 p2 p3 p4 ⊢
    rw [Array.toList_push] at p1
    have pc : ms1.toList.Perm (((PySem.strKind P w).hash x, Value.str x tk) :: ms.toList) := p1.trans (List.perm_append_singleton _ _)
    have pk : (ms1.toList.map txO).Perm (x :: ms.toList.map txO) := pc.map txO
    have q1 : ∀ m ∈ ms1.toList, MemS w m := fun m hm => by
      rcases List.mem_cons.mp (pc.mem_iff.mp hm) with z | z
      · rw [z]
        exact ⟨x, tk, rfl, rfl⟩
      · exact gm m z
    have q2 : (ms1.toList.map txO).Nodup := pk.nodup_iff.mpr (List.nodup_cons.mpr ⟨nx, gN⟩)
    have q3 : ∀ y, (S y || decide (y = x)) = true ↔ y ∈ ms1.toList.map txO := fun y => by
      rw [Bool.or_eq_true, decide_eq_true_eq, gS y, pk.mem_iff, List.mem_cons]
      exact Or.comm
    have z1 : ms1.size = n + 1 := by rw [← Array.length_toList, pc.length_eq, List.length_cons, Array.length_toList, gn]
    have q4 : ms1.size < scanBound := by rw [z1]; exact room
    have q7 : w.params.followText "set-order" = true ∨ tb1.led = true := gL.imp id fun z => by rw [p4]; exact z
    have fin : ∀ h', Heap.SameBut a s.heap h' → SetS w h' a (fun y => S y || decide (y = x)) ms1.size → Q true { s with heap := h' } := fun h' sb r => by
      have q := hQ h' sb
      rw [no] at q
      rw [z1] at r
      exact q r
    refine wpAny_bind (gw _ ?_)
    split
    · refine wpAny_bind ?_
      rw [hashByValue_scannable 8 sc]
      refine wpAny_pure ?_
      refine tail_S (fun b s₁ Q' q => by cases b <;> first | exact wpAny_pure q | exact wpAny_rule q) g gx gd q1 q2 q3 q4 ?_ ?_ ?_ fun h' sb r => by dsimp only; exact wpAny_pure (fin h' sb r)
      · first | (split <;> first | exact p2 | exact SetTable.fits_plain_off p2) | exact p2
      · first | (split <;> exact p3) | exact p3
      · first | (split <;> exact q7) | exact q7
    · refine wpAny_bind (wpAny_pure ?_)
      simp only [↓reduceIte]
      exact tail_S (fun b s₁ Q' q => by cases b <;> first | exact wpAny_pure q | exact wpAny_rule q) g gx gd q1 q2 q3 q4 p2 p3 q7 fun h' sb r => by dsimp only; exact wpAny_pure (fin h' sb r)
theorem add_S {x : Str} {tk : Tok} {Q : Value → Shared → Prop} (R : SetS w s.heap a S n) (room : n + 1 < scanBound)
    (hQ : ∀ h', Heap.SameBut a s.heap h' → SetS w h' a (fun y => S y || decide (y = x)) (if S x = true then n else n + 1) → Q .none { s with heap := h', toks := s.toks + 1 }) :
    wpAny (model P w) A (call (.builtin "set.add") [.ref a, .str x tk]) Q E s := by
  have hS : s.heap.SetOf (PySem.strKind P w) a S n := R.of
  refine wpAny_call_entry F.slot_set_add hS.typeIs F.entry_set_add ?_ (F.args_set_add_2 _ _)
  unfold Builtin.«set.add» Builtin.Frozenset.oneOther
  simp only [List.isEmpty_nil, bind_assoc]
  unfold Builtin.Frozenset.addrOf setAdd
  refine wpAny_bind (wpAny_pure ?_)
  try dsimp only
  refine wpAny_bind (wpAny_pure ?_)
  try dsimp only
  refine wpAny_bind (wpAny_holding (wpAny_bind ((PySem.strKind P w).pyHash (PySem.strKind_is _ _ _ _) ?_)))
  refine addHashed_S (s := { s with toks := s.toks + 1 }) R room fun h' sb r => ?_
  show wpAny _ _ (ret Value.none) _ _ _
  exact wpAny_pure ⟨_, rfl, hQ h' sb r⟩
theorem fresh_S {h : Heap} (w : World) : SetS w (h.push { cls := .type "set", dict := none, data := .set #[] 0 (.fresh 0 0 (!w.params.followText "set-order")) }) h.objs.size (fun _ => false) 0 :=
  ⟨_, #[], 0, _, Heap.get?_push_size _ rfl, ⟨rfl, rfl, rfl⟩, rfl, (fun m hm => by simp at hm), (by simp), (fun x => by simp), (by decide), (by rfl), rfl, List.Pairwise.nil, by
    show _ ∨ (!w.params.followText "set-order") = true
    cases w.params.followText "set-order"
    · exact .inr rfl
    · exact .inl rfl⟩
end
end VS


set_option Elab.async false
set_option linter.all false
set_option maxRecDepth 100000
set_option maxHeartbeats 4000000
namespace VS
open PySem PySem.Spec PyProof.Rows L2 Evl
/-- .. as a tracked thing -/
def SetSO (w : World) (a : Addr) (S : Str → Bool) (n : Nat) : HO := .ext fun h => SetS w h a S n
theorem SetSO.mk {w : World} {P : Program} {H : Hp} {h : Heap} {a : Addr} {S : Str → Bool} {n : Nat} (R : SetS w h a S n) : ObjOk P w H h a (SetSO w a S n) := by
  have ⟨ob, _, _, _, g, _⟩ := R
  exact ⟨R, ⟨ob, g⟩, fun h1 h2 p k => SetS.keep p k⟩
section
variable {X : Cx}
theorem SetSO.get {pins : List (Addr × Obj)} {σ : L2.St} {H : Hp} {s : Shared} {a : Addr} {S : Str → Bool} {n : Nat} (I : Inv X pins σ H s) (ha : H a = some (SetSO X.w a S n)) : SetS X.w s.heap a S n := (I.hok a _ ha).1
theorem add_inv {pins : List (Addr × Obj)} {σ : L2.St} {H : Hp} {s : Shared} {E : Value → Shared → Prop} {D : Addr} {S : Str → Bool} {n : Nat} {x : Str} {tk : Tok} {Q : Value → Shared → Prop} (I : Inv X pins σ H s) (hD : H D = some (SetSO X.w D S n)) (room : n + 1 < scanBound)
    (h : ∀ s', Inv X pins σ (upd H D (SetSO X.w D (fun y => S y || decide (y = x)) (if S x = true then n else n + 1))) s' → Q .none s') : wpAny (model X.prog X.w) X.A (call (.builtin "set.add") [.ref D, .str x tk]) Q E s := by
  refine add_S (SetSO.get I hD) room fun h' sb new => ?_
  have there : ∃ u, h'.get? D = some u := by
    have ⟨ob, _, _, _, g, _⟩ := new
    exact ⟨ob, g⟩
  exact h _ (I.write (e := D) (t' := s.toks + 1) (by rw [hD]; trivial) (.inl rfl) (fun b u hb hu => (sb.2 b hb).trans hu) there (SetSO.mk new))
/-- {elt for target in iter if ..}, elt a text; D: where the new set lies -/
def tScS (w : World) (wi : TI) (g : TG) (tt : TT) (te : TE) (vs : List Nat) : TE := fun σ H Q => wi σ H fun J H1 => ∀ D, H1 D = none → ∃ W : Nat → Nat → Hp → Prop,
  (∃ m, W 0 m (upd H1 D (SetSO w D (fun _ => false) 0))) ∧ ∀ i m H, W i m H → (J.stop i H ∧ Q (.ref D) H) ∨ (J.go i H ∧ ∃ Nx : Hp → Prop, (∀ H', Nx H' → ∃ m', m' < m ∧ W (i + 1) m' H') ∧
    ∀ x H', J.yld i H x H' → g x (wipe σ vs) H' fun σ2 H2 => wipe σ2 vs = wipe σ vs ∧ tt σ2 H2 fun b H3 => if b = true then te σ2 H3 fun y H4 => ∃ (c : Str) (S : Str → Bool) (n : Nat), y = .str c ∧
      H4 D = some (SetSO w D S n) ∧ n + 1 < scanBound ∧ Nx (upd H4 D (SetSO w D (fun z => S z || decide (z = c)) (if S c = true then n else n + 1))) else Nx H3)
theorem run_scS {pins : List (Addr × Obj)} {s : Shared} {σ : L2.St} {H : Hp} {Q : VK} {elt tg iter : Expr} {ifs : List Expr} {scope : Scope} {own : List (PySem.Str × Nat)} {pos pos' : Pos} {wi : TI} {g : TG} {tt : TT} {te : TE}
    {use : Option (Value → Sem Unit)} {Qf : Value → Shared → Prop} (hc : X.calm = true) (hN : X.N.Nodup) (I : Inv X pins σ H s) (hi : PI X tg iter wi) (ok : BlkOk X.N X.env.scope scope own)
    (hg : ∀ (s : Shared) (H : Hp) (C : Addr) (cl : List (PySem.Str × Addr)) (fp : List Addr), PG (X.blk s H scope (compEnvC scope cl C X.env) fp) tg g)
    (ht : ∀ (s : Shared) (H : Hp) (C : Addr) (cl : List (PySem.Str × Addr)) (fp : List Addr), PTs (X.blk s H scope (compEnvC scope cl C X.env) fp) ifs tt)
    (he : ∀ (s : Shared) (H : Hp) (C : Addr) (cl : List (PySem.Str × Addr)) (fp : List Addr), PE (X.blk s H scope (compEnvC scope cl C X.env) fp) elt te)
    (hs : ∀ x, foldedSetIterable iter X.env x = pure x) (h : tScS X.w wi g tt te (own.map (·.2)) σ H Q)
    (fin : ∀ D C s' m H', Inv X pins σ H' s' → Q (.ref D) H' → s'.heap.Ns C m → FpOk X pins H' C → compPost (model X.prog X.w) X.A X.xe use Qf (.ref D) C (.ok .next) s') :
    wpAny (model X.prog X.w) X.A (comprehension (.SetComp elt [⟨tg, iter, ifs, 0⟩] scope pos) scope X.env pos' (newSet (.type "set")) false (eval iter X.env) use) Qf X.xe s := by
  have free : ∀ y ∈ scope.names, y.2 = .free → ∃ c, X.env.cells.lookup y.1 = some c := fun y hy e => by
    rcases ok.free y hy e with k | k
    · exact I.ok.has _ (.inl k)
    · exact I.ok.has _ (.inr k)
  refine wpAny_comprehension_free (use := use) rfl hs (closure_ok free) ok.kind (fun y hy e => by rw [ok.uniq y hy, e]) (thn (hi.run pins s σ H _ I h) fun xv s1 hx => thn hx fun itv s2 h2 => ?_)
  obtain ⟨it, fp, tn, J, H2, e, I2, T, st2, f2, q⟩ := h2
  subst e
  refine PpSet.newSet_ok (newEnv_comp ?_)
  generalize hD : s2.heap.objs.size = D
  have nD : H2 D = none := I2.hok.fresh (Nat.le_of_eq hD)
  obtain ⟨W, ⟨m0, w0⟩, turn⟩ := q D nD
  generalize hs3 : ({ s2 with heap := s2.heap.push { cls := .type "set", dict := none, data := .set #[] 0 (.fresh 0 0 (!X.w.params.followText "set-order")) } } : Shared) = s3
  have I3 : Inv X pins σ (upd H2 D (SetSO X.w D (fun _ => false) 0)) s3 := by
    rw [← hs3]
    refine I2.laid (t' := s2.toks) (fun b o e => Heap.get?_push_of_some _ e) (Nat.le_of_eq hD) ?_
    rw [← hD]
    exact SetSO.mk (fresh_S X.w)
  have h3 : s3.heap = s2.heap.push { cls := .type "set", dict := none, data := .set #[] 0 (.fresh 0 0 (!X.w.params.followText "set-order")) } := by rw [← hs3]
  have lt : ∀ b ∈ fp, b < s2.heap.objs.size := fun b hb => by
    obtain ⟨o, e, _⟩ := T.obj _ _ st2 b hb
    exact Heap.lt_size e
  have f3 : ∀ b ∈ fp, FpOk X pins (upd H2 D (SetSO X.w D (fun _ => false) 0)) b ∧ b < s3.heap.objs.size := fun b hb => by
    have l := lt b hb
    refine ⟨⟨?_, (f2 b hb).2⟩, by rw [h3, Heap.size_push]; exact Nat.lt_succ_of_lt l⟩
    rw [upd_ne (by rw [← hD]; exact Nat.ne_of_lt l)]
    exact (f2 b hb).1
  have st3 : tn 0 s3.heap := T.keep _ _ _ st2 fun b _ o e => by rw [h3]; exact Heap.get?_push_of_some _ e
  have I4 := block_start I3 ok hN f3
  have pg := hg s3 (upd H2 D (SetSO X.w D (fun _ => false) 0)) s3.heap.objs.size (cellsFrom (s3.heap.objs.size + 1) scope.names (cloFrom X.env.cells scope.names [])) fp
  have pt := ht s3 (upd H2 D (SetSO X.w D (fun _ => false) 0)) s3.heap.objs.size (cellsFrom (s3.heap.objs.size + 1) scope.names (cloFrom X.env.cells scope.names [])) fp
  have pe := he s3 (upd H2 D (SetSO X.w D (fun _ => false) 0)) s3.heap.objs.size (cellsFrom (s3.heap.objs.size + 1) scope.names (cloFrom X.env.cells scope.names [])) fp
  show codeAny _ _ (.compStart (.SetComp elt [⟨tg, iter, ifs, 0⟩] scope pos) 0 (.ref it) (.ref D) (compEnvC scope (cellsFrom (s3.heap.objs.size + 1) scope.names (cloFrom X.env.cells scope.names [])) s3.heap.objs.size X.env))
    (compPost (model X.prog X.w) X.A X.xe use Qf (.ref D) s3.heap.objs.size) { s3 with heap := pushCells (s3.heap.push { cls := .type "dict", data := .dict #[] }) scope.names }
  have nfp : ∀ b ∈ fp, (upd H2 D (SetSO X.w D (fun _ => false) 0)) b = none := fun b hb => (f3 b hb).1.1
  generalize hce : compEnvC scope (cellsFrom (s3.heap.objs.size + 1) scope.names (cloFrom X.env.cells scope.names [])) s3.heap.objs.size X.env = ce at I4 pg pt pe ⊢
  have cL : ce.locals = s3.heap.objs.size := by subst hce; rfl
  generalize hH3 : upd H2 D (SetSO X.w D (fun _ => false) 0) = H3 at I3 I4 pg pt pe w0 nfp f3
  generalize hs4 : ({ s3 with heap := pushCells (s3.heap.push { cls := .type "dict", data := .dict #[] }) scope.names } : Shared) = s4 at I4 ⊢
  have st4 : tn 0 s4.heap := T.keep _ _ _ st3 fun b _ o e => by rw [← hs4]; exact pushCells_keeps _ _ _ _ (Heap.get?_push_of_some _ e)
  have stat : ∀ {σ' : L2.St} {H' : Hp} {s' : Shared}, Inv (X.blk s3 H3 scope ce fp) [] σ' H' s' → (∀ b ∈ fp, H' b = none) → ∀ b ∈ fp, FpOk (X.blk s3 H3 scope ce fp) [] H' b := fun {σ' H' s'} J hn b hb =>
    ⟨hn b hb, (J.ok.exf b hb).1, J.ok.exfs b hb, .inl hb, fun x c e => (J.ok.exf b hb).2 x c e, fun p hp => absurd (show p ∈ ([] : List (Addr × Obj)) ++ [] from hp) (by simp)⟩
  have loop : codeAny (model X.prog X.w) X.A (.compLoop (.SetComp elt [⟨tg, iter, ifs, 0⟩] scope pos) 0 (.ref it) (.ref D) ce) (compPost (model X.prog X.w) X.A X.xe use Qf (.ref D) s3.heap.objs.size) s4 := by
    refine PpSet.compLoopS_any (fun n s' => ∃ i H', Inv (X.blk s3 H3 scope ce fp) [] (wipe σ (own.map (·.2))) H' s' ∧ tn i s'.heap ∧ (∀ b ∈ fp, H' b = none) ∧ W i n H') ?_ m0 ⟨0, H3, I4, st4, nfp, w0⟩
    rintro n s5 ⟨i, H5, I5, st5, n5, w5⟩
    rcases turn i n H5 w5 with ⟨stop, qq⟩ | ⟨go, Nx, hNx, step⟩
    · refine thnF (T.done (X.blk s3 H3 scope ce fp) rfl rfl rfl hc i [] s5 _ H5 (fun _ _ => False) I5 (stat I5 n5) st5 stop) fun r s6 ⟨hr, I6⟩ => ?_
      subst hr
      have I7 : Inv X pins σ H5 s6 := I3.call' (ch := fp) I6.os I6.base I6.hok I6.bare fun b hb => ⟨(f3 b hb).1.2.2.2.1, (f3 b hb).1.2.1, (f3 b hb).1.2.2.2.2.1, (f3 b hb).1.2.2.2.2.2⟩
      have nC : H5 s3.heap.objs.size = none := by
        have z : H5 ce.locals = none := I6.free
        rw [cL] at z
        exact z
      obtain ⟨m, hn, _⟩ := I6.loc
      have hn : s6.heap.Ns ce.locals m := hn
      rw [cL] at hn
      exact fin D s3.heap.objs.size s6 m H5 I7 qq hn (I3.fpOk (Nat.le_refl _) nC)
    · refine thnF (T.item (X.blk s3 H3 scope ce fp) rfl rfl rfl hc i [] s5 _ H5 (fun _ _ => False) I5 (stat I5 n5) st5 go) fun r s6 ⟨u, hr, h6⟩ => ?_
      subst hr
      refine thnF h6 fun _ s7 ⟨x, H7, I7, r7, y7, st7, n7⟩ => ?_
      refine thnF (pg.run _ s7 _ H7 x u _ (I7.pinned (stat I7 n7) (T.obj _ _ st7)) r7 (step x H7 y7)) fun _ s8 ⟨σ8, H8, I8, hw8, q8⟩ => ?_
      refine thnF (pt.run _ s8 σ8 H8 _ I8 q8) fun b s9 ⟨H9, I9, q9⟩ => ?_
      have back : ∀ {s' : Shared} {H' : Hp}, Inv (X.blk s3 H3 scope ce fp) ([] ++ pinsAt fp s7.heap) σ8 H' s' → Nx H' → ∃ m, m < n ∧ ∃ i H', Inv (X.blk s3 H3 scope ce fp) [] (wipe σ (own.map (·.2))) H' s' ∧ tn i s'.heap ∧ (∀ b ∈ fp, H' b = none) ∧ W i m H' := fun {s' H'} J nx => by
        obtain ⟨m', hm, w'⟩ := hNx H' nx
        have pin' : ∀ b ∈ fp, ∀ o, s7.heap.get? b = some o → s'.heap.get? b = some o ∧ H' b = none := fun b hb o e =>
          let z := J.pin (b, o) (List.mem_append_right _ (List.mem_append_right _ (mem_pinsAt hb e)))
          ⟨z.1, z.2.1⟩
        have hl : (wipe σ (own.map (·.2))).length = σ8.length := by rw [← hw8, wipe_length]
        refine ⟨m', hm, i + 1, H', (J.unpinned (pins := [])).weak hl (fun j v e => ?_), T.keep _ _ _ st7 fun b hb o e => (pin' b hb o e).1, fun b hb => ?_, w'⟩
        · rw [← hw8] at e
          exact (wipe_some e).1
        · obtain ⟨o, e, _⟩ := T.obj _ _ st7 b hb
          exact (pin' b hb o e).2
      cases b with
      | false =>
        simp only [Bool.false_eq_true, if_false] at q9 ⊢
        exact back I9 q9
      | true =>
        simp only [if_true] at q9 ⊢
        refine thnF (pe.run _ s9 σ8 H9 _ I9 q9) fun z s10 ⟨yv, H10, I10, r10, c, S0, n0, ey, hD10, hz10, nx⟩ => ?_
        subst ey
        obtain ⟨tk, rfl⟩ : ∃ tk, z = Value.str c tk := r10
        exact add_inv (X := X.blk s3 H3 scope ce fp) I10 hD10 hz10 fun s11 I11 => back I11 nx
  exact PpSet.codeAny_compStart_set loop (T.self X.A 0 _ _ _ st4 loop)
theorem pe_scS {elt tg iter : Expr} {ifs : List Expr} {scope : Scope} {own : List (PySem.Str × Nat)} {pos : Pos} {wi : TI} {g : TG} {tt : TT} {te : TE} (hc : X.calm = true) (hN : X.N.Nodup) (hi : PI X tg iter wi) (ok : BlkOk X.N X.env.scope scope own)
    (hg : ∀ (s : Shared) (H : Hp) (C : Addr) (cl : List (PySem.Str × Addr)) (fp : List Addr), PG (X.blk s H scope (compEnvC scope cl C X.env) fp) tg g)
    (ht : ∀ (s : Shared) (H : Hp) (C : Addr) (cl : List (PySem.Str × Addr)) (fp : List Addr), PTs (X.blk s H scope (compEnvC scope cl C X.env) fp) ifs tt)
    (he : ∀ (s : Shared) (H : Hp) (C : Addr) (cl : List (PySem.Str × Addr)) (fp : List Addr), PE (X.blk s H scope (compEnvC scope cl C X.env) fp) elt te)
    (hs : ∀ x, foldedSetIterable iter X.env x = pure x := by intro _; rfl) : PE X (.SetComp elt [⟨tg, iter, ifs, 0⟩] scope pos) (tScS X.w wi g tt te (own.map (·.2))) := by
  refine ⟨fun pins s σ H Q I h => ?_⟩
  rw [PpSet.eval_SetComp]
  refine run_scS hc hN I hi ok hg ht he hs h fun D C s' m H' J q hn f => ⟨m, hn, fun h'' sb => ?_⟩
  obtain ⟨f0, f1, f2, f3, f4, f5⟩ := f
  exact ⟨.ref D, H', J.turned (t' := s'.toks) (fun b o hb e => (sb.2 b hb).trans e) f0 f1 f3 f4 f5, rfl, q⟩
end
/-- the reading over a list that stands still -/
theorem scS_list {w : World} {K : PySem.W.Frag} {a : Addr} {xs : List V} {g : TG} {tt : TT} {te : TE} {vs : List Nat} {σ : L2.St} {H1 : Hp} {D : Addr} {Qd : Hp → Prop} (Pv : Nat → Hp → Prop) (h0 : Pv 0 (upd H1 D (SetSO w D (fun _ => false) 0)))
    (hl : ∀ i H, i ≤ xs.length → Pv i H → SqL K H a xs)
    (hs : ∀ i x H, xs[i]? = some x → Pv i H → g x (wipe σ vs) H fun σ2 H2 => wipe σ2 vs = wipe σ vs ∧ tt σ2 H2 fun b H3 => if b = true then te σ2 H3 fun y H4 => ∃ (c : Str) (S : Str → Bool) (n : Nat), y = .str c ∧ H4 D = some (SetSO w D S n) ∧
      n + 1 < scanBound ∧ Pv (i + 1) (upd H4 D (SetSO w D (fun z => S z || decide (z = c)) (if S c = true then n else n + 1))) else Pv (i + 1) H3) (hd : ∀ H, Pv xs.length H → Qd H) :
    ∃ W : Nat → Nat → Hp → Prop, (∃ m, W 0 m (upd H1 D (SetSO w D (fun _ => false) 0))) ∧ ∀ i m H, W i m H → ((Itl K a).stop i H ∧ Qd H) ∨ ((Itl K a).go i H ∧ ∃ Nx : Hp → Prop, (∀ H', Nx H' → ∃ m', m' < m ∧ W (i + 1) m' H') ∧
      ∀ x H', (Itl K a).yld i H x H' → g x (wipe σ vs) H' fun σ2 H2 => wipe σ2 vs = wipe σ vs ∧ tt σ2 H2 fun b H3 => if b = true then te σ2 H3 fun y H4 => ∃ (c : Str) (S : Str → Bool) (n : Nat), y = .str c ∧
        H4 D = some (SetSO w D S n) ∧ n + 1 < scanBound ∧ Nx (upd H4 D (SetSO w D (fun z => S z || decide (z = c)) (if S c = true then n else n + 1))) else Nx H3) := by
  refine ⟨fun i m H => m = xs.length - i ∧ i ≤ xs.length ∧ Pv i H, ⟨xs.length, by simp, Nat.zero_le _, h0⟩, ?_⟩
  rintro i m H ⟨rfl, hi, p⟩
  have q := hl i H hi p
  by_cases c : i < xs.length
  · refine .inr ⟨⟨xs, xs[i], q, by simp [c]⟩, Pv (i + 1), fun H' p' => ⟨xs.length - (i + 1), by omega, rfl, c, p'⟩, fun x H' y => ?_⟩
    obtain ⟨e, y⟩ := y
    subst e
    exact hs i x _ (y xs q) p
  · have e : i = xs.length := by omega
    subst e
    exact .inl ⟨⟨xs, q, Nat.le_refl _⟩, hd H p⟩
/-! ### sorted(a set of texts) -/
theorem strs_of : ∀ (l : List Value), (∀ v ∈ l, ∃ x tk, v = Value.str x tk) → ∃ xs, StrsAre l xs ∧ l.map (fun v => match v with | .str x _ => x | _ => Str.empty) = xs
  | [], _ => ⟨[], .nil, rfl⟩
  | v :: l, h => by
    obtain ⟨x, tk, rfl⟩ := h v (List.mem_cons_self ..)
    obtain ⟨xs, h1, h2⟩ := strs_of l fun u hu => h u (List.mem_cons_of_mem _ hu)
    exact ⟨x :: xs, .cons x tk h1, by rw [List.map_cons, h2]⟩
section
variable {P : Program} {w : World} {A : Around} {E : Value → Shared → Prop} {s : Shared} {a : Addr}
theorem sorted_S {S : Str → Bool} {n : Nat} {Q : Value → Shared → Prop} (R : SetS w s.heap a S n) (hh : A.handled = none)
    (hQ : ∀ s' p (out : Array Value) (c : Nat) (xs : List Str), (∀ b o, s.heap.get? b = some o → s'.heap.get? b = some o) → s'.gens = s.gens → s'.os = s.os → s.heap.objs.size ≤ p →
      s'.heap.get? p = some (seqObj "list" out c) → StrsAre out.toList xs → sortedS xs = true → xs.Nodup → (∀ x, x ∈ xs ↔ S x = true) → xs.length = n → Q (.ref p) s') :
    wpAny (model P w) A (call (.builtin "sorted") [.ref a]) Q E s := by
  obtain ⟨ob, ms, ep, tb, g, gx, gd, gm, gN, gS, gb, gf, gn, gR, gL⟩ := R
  refine Calls.call_function_entry kind_sorted plain_sorted entry_sorted (args_sorted1 _) ?_
  unfold Builtin.«sorted»
  refine wpAny_bind (m := checkCount "sorted" 1 1 _) (wpAny_pure ?_)
  refine wpAny_bind (collect_set (A := A.in1) hh ⟨ob, g, gx.1, gd⟩ gf gb gR gL fun s1 vs k1 hz g1 o1 pm => ?_)
  have lv : vs.length = n := by rw [pm.length_eq, List.length_map, Array.length_toList]; exact gn
  have hb : n < 4096 := by rw [← gn]; exact gb
  obtain ⟨xs, hX, eX⟩ := strs_of vs fun v hv => by
    obtain ⟨m, hm, q⟩ := List.mem_map.mp (pm.mem_iff.mp hv)
    obtain ⟨x, tk, h1, _⟩ := gm m hm
    exact ⟨x, tk, by rw [← q]; exact h1⟩
  have pk : xs.Perm (ms.toList.map txO) := by
    have q := pm.map (fun v => match v with | .str x _ => x | _ => Str.empty)
    rw [eX, List.map_map] at q
    exact q
  have lz : vs.length ≤ sizeLine := by rw [lv, sizeLine_eq]; omega
  refine wpAny_bind (wpAny_newList ?_ lz)
  have hoL : (s1.heap.push (seqObj "list" vs.toArray 0)).get? s1.heap.objs.size = some (seqObj "list" vs.toArray 0) := Heap.get?_push_size _ rfl
  refine wpAny_bind (wpAny_holding (wpAny_call_entry slot_list_sort ⟨_, hoL, rfl⟩ entry_list_sort
    (list_sort_treeKAny strKind_oneLt hoL hX.keysOf (fun v₁ v₂ rest e => keyKind_strs (by rw [← e]; exact hX)) lz fun st' hp hs => ⟨_, rfl, ?_⟩) (args_list_sort _)))
  obtain ⟨ys, a1, a2, a3⟩ := sorted_out_str hX hp hs
  obtain ⟨c, hc⟩ := sortedHeap_at (vs := vs) (out := (arrOf st').map (·.2)) hoL
  have pn : ys.Perm (ms.toList.map txO) := a2.trans pk
  refine wpAny_pure ⟨_, rfl, hQ _ s1.heap.objs.size _ c ys (fun b u e => ?_) g1 o1 hz hc a1 a3 (pn.nodup_iff.mpr gN) (fun x => by rw [pn.mem_iff, ← gS x]) ?_⟩
  · have q := k1 b u e
    have hlt := Heap.lt_size q
    show (sortedHeap (s1.heap.push (seqObj "list" vs.toArray 0)) s1.heap.objs.size vs ((arrOf st').map (·.2))).get? b = some u
    rw [sortedHeap_old (Nat.ne_of_lt hlt) (by rw [size_push']; exact Nat.lt_succ_of_lt hlt)]
    exact Heap.get?_push_of_some _ q
  · rw [pn.length_eq, List.length_map, Array.length_toList]; exact gn
end
section
variable {X : Cx}
/-- sorted(found) -/
def rSortS (w : World) : List V → Hp → VK → Prop := fun vs H Q => ∃ (a : Addr) (S : Str → Bool) (n : Nat), vs = [V.ref a] ∧ H a = some (SetSO w a S n) ∧
  ∀ (xs : List Str) (p : Addr), sortedS xs = true → xs.Nodup → (∀ x, x ∈ xs ↔ S x = true) → H p = none → Q (.ref p) (upd H p (.lst (xs.map V.str)))
theorem cr_sortS (hc : X.calm = true) : CallR X (.builtin "sorted") (rSortS X.w) := by
  intro pins s σ H vs us Q I r h
  obtain ⟨a, S, n, rfl, ha, q⟩ := h
  have R := SetSO.get I ha
  have hb : n < 4096 := by
    obtain ⟨_, _, _, _, _, _, _, _, _, _, gb, _, gn, _⟩ := R
    rw [← gn]
    exact gb
  rw [Vals.ref1 r]
  refine sorted_S R (I.ok.hd hc) fun s' p out c xs k g o hp hg hi hs hn hm hl => ?_
  have hlen : (xs.map V.str).length ≤ sizeLine := by rw [List.length_map, hl, sizeLine_eq]; omega
  have np : H p = none := I.hok.fresh hp
  have J : Inv X pins σ (upd H p (.lst (xs.map V.str))) { s with heap := s'.heap, gens := s'.gens, drawn := s'.drawn, toks := s'.toks } :=
    I.call (ch := []) (Un.laid k hp np) (I.hok.laid k hp ⟨hlen, out.toList, c, vals_of_strs hi, hg⟩) (by rw [g]; exact I.bare) (fun _ z => nomatch z)
  have e : s' = { s with heap := s'.heap, gens := s'.gens, drawn := s'.drawn, toks := s'.toks } := by
    cases s'
    cases s
    cases o
    rfl
  rw [e]
  exact ⟨.ref p, _, J, rfl, q xs p hs hn hm np⟩
end
end VS


set_option Elab.async false
set_option linter.all false
set_option maxRecDepth 100000
set_option maxHeartbeats 4000000
namespace V
open PySem PySem.Spec PyProof.Rows L2 Evl
def Tm.word : Tm → Str
  | .num _ => "num"
  | .arg _ => "arg"
  | .node (.op o) _ => o.str
  | .node (.call _) _ => "call"
  | .node (.ring _) _ => "ring"
theorem TmAt.head {H : Hp} {v : V} {t : Tm} (h : TmAt H v t) : ∃ a r, v = .ref a ∧ H a = some (.tup (.str t.word :: r)) := by
  cases h with
  | num h => exact ⟨_, _, rfl, h⟩
  | arg h => exact ⟨_, _, rfl, h⟩
  | op h _ => exact ⟨_, _, rfl, h⟩
  | call h _ _ => exact ⟨_, _, rfl, h⟩
  | ring h _ _ => exact ⟨_, _, rfl, h⟩
theorem op_in (o : Op) : decide (o.str ∈ opWords) = true := by
  cases o <;> decide +kernel
theorem out_num : decide (("num" : Str) ∈ opWords) = false := by decide +kernel
theorem out_arg : decide (("arg" : Str) ∈ opWords) = false := by decide +kernel
theorem out_call : decide (("call" : Str) ∈ opWords) = false := by decide +kernel
theorem out_ring : decide (("ring" : Str) ∈ opWords) = false := by decide +kernel
/-- the terms that stand straight in it -/
def spParts : Sp := fun vs H Q _ => ∃ (v : V) (t : Tm), vs = [v] ∧ TmAt H v t ∧ t.parts.length ≤ 4 ∧
  ∀ (H' : Hp) (p : Addr) (us : List V), Ex H H' → H' p = some (.tup us) → TmsAt H' us t.parts → Q (.ref p) H'
theorem parts_deep {t u : Tm} (h : u ∈ t.parts) : u.deep + 1 ≤ t.deep := by
  cases t with
  | num n => cases h
  | arg k => cases h
  | node hd ts =>
    have := deep_le (t := u) (ts := ts) h
    show u.deep + 1 ≤ 1 + Tm.deeps ts
    omega
theorem Tm.Ok.parts {M : Nat} {t u : Tm} (k : t.Ok M) (h : u ∈ t.parts) : u.Ok M := by
  cases k with
  | num _ => cases h
  | arg _ => cases h
  | node _ ks => exact ks u h
theorem Tm.Ok.few {M : Nat} {t : Tm} (k : t.Ok M) : t.parts.length ≤ 4 := by
  cases k with
  | num _ => exact Nat.zero_le _
  | arg _ => exact Nat.zero_le _
  | node h _ => exact h.le
theorem size_pos : ∀ t : Tm, 1 ≤ t.size
  | .num _ => Nat.le_refl _
  | .arg _ => Nat.le_refl _
  | .node h ts => by
    show 1 ≤ 1 + Tm.sizes ts
    omega
theorem all_parts (t : Tm) : t.all = t :: Tm.alls t.parts := by
  cases t <;> rfl
theorem size_parts (t : Tm) : t.size = 1 + Tm.sizes t.parts := by
  cases t <;> rfl
theorem deep_parts (t : Tm) : t.deep = 1 + Tm.deeps t.parts := by
  cases t <;> rfl
theorem alls_append (ts us : List Tm) : Tm.alls (ts ++ us) = Tm.alls ts ++ Tm.alls us := by
  induction ts with
  | nil => rfl
  | cons t ts ih =>
    show t.all ++ Tm.alls (ts ++ us) = (t.all ++ Tm.alls ts) ++ Tm.alls us
    rw [ih, List.append_assoc]
theorem alls_len (ts : List Tm) : (Tm.alls ts).length = Tm.sizes ts := by
  induction ts with
  | nil => rfl
  | cons t ts ih =>
    show (t.all ++ Tm.alls ts).length = t.size + Tm.sizes ts
    rw [List.length_append, all_len, ih]
theorem sizes_take (ts : List Tm) (i : Nat) : Tm.sizes (ts.take i) ≤ Tm.sizes ts := by
  induction ts generalizing i with
  | nil => simp [Tm.sizes]
  | cons t ts ih =>
    cases i with
    | zero => exact Nat.zero_le _
    | succ i =>
      have := ih i
      show t.size + Tm.sizes (ts.take i) ≤ t.size + Tm.sizes ts
      omega
theorem size_mem {ts : List Tm} {t : Tm} (h : t ∈ ts) : t.size ≤ Tm.sizes ts := by
  induction ts with
  | nil => cases h
  | cons u us ih =>
    show t.size ≤ u.size + Tm.sizes us
    rcases List.mem_cons.mp h with rfl | h
    · omega
    · have := ih h
      omega
theorem take_more {α : Type} {l : List α} {i : Nat} {x : α} (h : l[i]? = some x) : l.take (i + 1) = l.take i ++ [x] := by
  rw [List.take_add_one, h]
  rfl
theorem get_mem {α : Type} {l : List α} {i : Nat} {x : α} (h : l[i]? = some x) : x ∈ l := List.mem_of_getElem? h
/-- all terms in it, itself ahead: a new list -/
def spAll (n : Nat) : Sp := fun vs H Q _ => ∃ (v : V) (t : Tm) (M : Nat), vs = [v] ∧ TmAt H v t ∧ t.Ok M ∧ t.deep ≤ n ∧ t.size ≤ 1000 ∧
  ∀ (H' : Hp) (p : Addr) (us : List V), H p = none → Ex H H' → H' p = some (.lst us) → TmsAt H' us t.all → Q (.ref p) H'
def spSize (n : Nat) : Sp := fun vs H Q _ => ∃ (v : V) (t : Tm) (M : Nat), vs = [v] ∧ TmAt H v t ∧ t.Ok M ∧ t.deep ≤ n ∧ t.size ≤ 1000 ∧ ∀ (H' : Hp), Ex H H' → Q (.int (t.size : Int)) H'
def spDeep (n : Nat) : Sp := fun vs H Q _ => ∃ (v : V) (t : Tm) (M : Nat), vs = [v] ∧ TmAt H v t ∧ t.Ok M ∧ t.deep ≤ n ∧ ∀ (H' : Hp), Ex H H' → Q (.int (t.deep : Int)) H'
theorem deeps_max (ts : List Tm) (m : Int) (hm : m ∈ ts.map fun t => (t.deep : Int)) (top : ∀ y ∈ ts.map (fun t => (t.deep : Int)), y ≤ m) : m = (Tm.deeps ts : Int) := by
  have le : ∀ us : List Tm, (∀ u ∈ us, (u.deep : Int) ≤ m) → 0 ≤ m → (Tm.deeps us : Int) ≤ m := by
    intro us
    induction us with
    | nil => intro _ h; exact h
    | cons u us ih =>
      intro h h0
      have h1 := h u (List.mem_cons_self ..)
      have h2 := ih (fun v hv => h v (List.mem_cons_of_mem _ hv)) h0
      show ((max u.deep (Tm.deeps us) : Nat) : Int) ≤ m
      omega
  obtain ⟨t, ht, rfl⟩ := List.mem_map.mp hm
  have h1 := deep_le ht
  have h2 := le ts (fun u hu => top _ (List.mem_map.mpr ⟨u, hu, rfl⟩)) (by omega)
  omega
/-! ### rising lists of texts -/
def tlt (a b : Str) : Prop := a.cps.toList < b.cps.toList
theorem tlt_irr (a : Str) : ¬ tlt a a := List.lt_irrefl _
theorem tlt_trans {a b c : Str} (h : tlt a b) (k : tlt b c) : tlt a c := List.lt_trans h k
theorem str_ext {a b : Str} (h : a.cps.toList = b.cps.toList) : a = b := by
  cases a
  cases b
  exact congrArg Str.mk (Array.toList_inj.mp h)
theorem tlt_of {a b : Str} (h : ltCps b.cps.toList a.cps.toList = false) (ne : a ≠ b) : tlt a b := by
  rw [ltCps_eq, decide_eq_false_iff_not] at h
  rcases Nat.lt_or_ge 0 0 with z | z
  · omega
  · by_cases c : a.cps.toList < b.cps.toList
    · exact c
    · exact absurd (str_ext (List.le_antisymm h c)) ne
theorem rise_of : ∀ (l : List Str) (p : Str), risingS p l = true → (p :: l).Nodup → (p :: l).Pairwise tlt
  | [], p, _, _ => List.pairwise_singleton _ _
  | x :: r, p, h, d => by
    have h1 : (!ltCps x.cps.toList p.cps.toList && risingS x r) = true := h
    rw [Bool.and_eq_true, Bool.not_eq_true'] at h1
    obtain ⟨d1, d2⟩ := List.nodup_cons.mp d
    have ih := rise_of r x h1.2 d2
    have px : tlt p x := tlt_of h1.1 fun e => d1 (e ▸ List.mem_cons_self ..)
    refine List.pairwise_cons.mpr ⟨fun y hy => ?_, ih⟩
    rcases List.mem_cons.mp hy with rfl | hy
    · exact px
    · exact tlt_trans px ((List.pairwise_cons.mp ih).1 y hy)
theorem sorted_rise {l : List Str} (h : sortedS l = true) (d : l.Nodup) : l.Pairwise tlt := by
  cases l with
  | nil => exact List.Pairwise.nil
  | cons x r => exact rise_of r x h d
/-- rising lists of the same members are one -/
theorem rise_same : ∀ {l k : List Str}, l.Pairwise tlt → k.Pairwise tlt → (∀ x, x ∈ l ↔ x ∈ k) → l = k
  | [], [], _, _, _ => rfl
  | [], y :: k, _, _, h => absurd ((h y).2 (List.mem_cons_self ..)) (by simp)
  | x :: l, [], _, _, h => absurd ((h x).1 (List.mem_cons_self ..)) (by simp)
  | x :: l, y :: k, hl, hk, h => by
    obtain ⟨l1, l2⟩ := List.pairwise_cons.mp hl
    obtain ⟨k1, k2⟩ := List.pairwise_cons.mp hk
    have e : x = y := by
      rcases List.mem_cons.mp ((h x).1 (List.mem_cons_self ..)) with e | hx
      · exact e
      · rcases List.mem_cons.mp ((h y).2 (List.mem_cons_self ..)) with e | hy
        · exact e.symm
        · exact absurd (tlt_trans (k1 x hx) (l1 y hy)) (tlt_irr y)
    subst e
    refine congrArg (x :: ·) (rise_same l2 k2 fun z => ⟨fun hz => ?_, fun hz => ?_⟩)
    · rcases List.mem_cons.mp ((h z).1 (List.mem_cons_of_mem _ hz)) with rfl | q
      · exact absurd (l1 z hz) (tlt_irr z)
      · exact q
    · rcases List.mem_cons.mp ((h z).2 (List.mem_cons_of_mem _ hz)) with rfl | q
      · exact absurd (k1 z hz) (tlt_irr z)
      · exact q
/-! ### marks and places of a term -/
def Tm.mk1 : Tm → List Str
  | .node (.call m) _ => [m]
  | _ => []
def Tm.pl1 : Tm → List Nat
  | .node (.ring p) _ => [p]
  | _ => []
/-- the marks that it calls, from left to right -/
def Tm.marks (t : Tm) : List Str := t.all.flatMap Tm.mk1
def Tm.places (t : Tm) : List Nat := t.all.flatMap Tm.pl1
def spCalls (n : Nat) : Sp := fun vs H Q _ => ∃ (v : V) (t : Tm) (M : Nat), vs = [v] ∧ TmAt H v t ∧ t.Ok M ∧ t.deep ≤ n ∧ t.size ≤ 1000 ∧
  ∀ (H' : Hp) (p : Addr) (xs : List Str), H p = none → Ex H H' → H' p = some (.lst (xs.map V.str)) → xs.Pairwise tlt → (∀ x, x ∈ xs ↔ x ∈ t.marks) → Q (.ref p) H'
def spPlaces (n : Nat) : Sp := fun vs H Q _ => ∃ (v : V) (t : Tm) (M : Nat), vs = [v] ∧ TmAt H v t ∧ t.Ok M ∧ t.deep ≤ n ∧ t.size ≤ 1000 ∧
  ∀ (H' : Hp) (p : Addr), H p = none → Ex H H' → H' p = some (.lst (t.places.map fun k : Nat => V.int (k : Int))) → Q (.ref p) H'
theorem take_flat {α β : Type} {l : List α} {f : α → List β} {i : Nat} {x : α} (h : l[i]? = some x) : (l.take (i + 1)).flatMap f = (l.take i).flatMap f ++ f x := by
  rw [take_more h, List.flatMap_append, List.flatMap_singleton]
end V


set_option Elab.async false
set_option linter.all false
set_option maxRecDepth 100000
set_option maxHeartbeats 4000000
namespace V
open PySem PySem.Spec PyProof.Rows L2 Evl
/-! ### what is drawn -/
/-- the box at b: n things at least may still be drawn of it -/
def Box (H : Hp) (b : Addr) (n : Nat) : Prop := ∃ x y z : Int, H b = some (.lst [.int x, .int y, .int z]) ∧ 0 ≤ x ∧ 0 ≤ y ∧ y < 2147483647 ∧ 0 ≤ z ∧ z + (n : Int) ≤ 1099511627776
theorem Box.less {H : Hp} {b : Addr} {n m : Nat} (h : Box H b n) (le : m ≤ n) : Box H b m := by
  obtain ⟨x, y, z, e, h0, h1, h2, h3, h4⟩ := h
  exact ⟨x, y, z, e, h0, h1, h2, h3, by omega⟩
theorem Box.lst {H : Hp} {b : Addr} {n : Nat} (h : Box H b n) : ∃ xs, H b = some (.lst xs) := by
  obtain ⟨x, y, z, e, _⟩ := h
  exact ⟨_, e⟩
theorem Box.tu {H H' : Hp} {b : Addr} {n : Nat} (h : Box H b n) (e : But b H H') : Tu H H' := by
  obtain ⟨xs, q⟩ := h.lst
  exact e.tu q
theorem Box.ex {H H' : Hp} {b : Addr} {n : Nat} (h : Box H b n) (e : Ex H H') : Box H' b n := by
  obtain ⟨x, y, z, q, r⟩ := h
  exact ⟨x, y, z, e _ _ q, r⟩
/-- one thing below size -/
def spTake : Sp := fun vs H Q _ => ∃ (b : Addr) (size : Int) (n : Nat), vs = [.ref b, .int size] ∧ 0 < size ∧ size ≤ 10000000 ∧ Box H b (n + 1) ∧
  ∀ (H' : Hp) (r : Int), But b H H' → Box H' b n → 0 ≤ r → r < size → Q (.int r) H'
end V


set_option Elab.async false
set_option linter.all false
set_option maxRecDepth 100000
set_option maxHeartbeats 4000000
namespace V
open PySem PySem.Spec PyProof.Rows L2 Evl
theorem ite01 (c : Prop) [Decidable c] : (0 : Int) ≤ (if c then 1 else 0) ∧ (if c then (1 : Int) else 0) ≤ 1 := by
  split <;> decide
/-- a number of a term -/
def spNum : Sp := fun vs H Q _ => ∃ (b : Addr) (n : Nat), vs = [.ref b] ∧ Box H b (n + 4) ∧
  ∀ (H' : Hp) (r : Int), But b H H' → Box H' b n → 0 ≤ r → r ≤ 1000002 → Q (.int r) H'
/-- a box of its own -/
def spBox (K : PySem.W.Frag) : Sp := fun vs H Q _ => ∃ (a : Addr) (ns : List Int) (k : Nat), vs = [.ref a, .int (k : Int)] ∧ SqL K H a (ns.map V.int) ∧ k ≤ 100 ∧
  ∀ (H' : Hp) (b : Addr), H b = none → Ex H H' → Box H' b 1099511627776 → Q (.ref b) H'
end V


set_option Elab.async false
set_option linter.all false
set_option maxRecDepth 100000
set_option maxHeartbeats 400000
namespace V
open PySem PySem.Spec PyProof.Rows L2 Evl TL NumText
/-! ### drawn marks and terms -/
def spSomeMark : Sp := fun vs H Q _ => ∃ (b : Addr) (n : Nat), vs = [.ref b] ∧ Box H b (n + 7) ∧ ∀ (H' : Hp) (m : Str), But b H H' → Box H' b n → isMk m → Q (.str m) H'
def sg36 : Str := "0123456789abcdefghijklmnopqrstuvwxyz"
theorem sg36_at : ∀ d : Nat, d < 36 → ∃ c : Nat, atI sg36.cps.toList (d : Int) = some c ∧ ((48 ≤ c ∧ c ≤ 57) ∨ (97 ≤ c ∧ c ≤ 122)) := by
  intro d hd
  have all : ∀ d : Nat, d < 36 → ∃ c ∈ sg36.cps.toList, sg36.cps.toList[d]? = some c ∧ ((48 ≤ c ∧ c ≤ 57) ∨ (97 ≤ c ∧ c ≤ 122)) := by decide +kernel
  obtain ⟨c, _, h1, h2⟩ := all d hd
  exact ⟨c, atI_nat h1, h2⟩
theorem joinL_nil : ∀ l : List (List Nat), joinL [] l = l.flatten
  | [] => rfl
  | [p] => by
    show p = p ++ []
    rw [List.append_nil]
  | p :: q :: r => by
    show p ++ ([] ++ joinL [] (q :: r)) = p ++ (q :: r).flatten
    rw [joinL_nil (q :: r)]
    rfl
def ones (l : List Nat) : List Str := l.map fun c => ⟨#[c]⟩
theorem tl_ones (l : List Nat) : tl (Str.join "" (ones l)) = l := by
  rw [tl_join, show tl ("" : Str) = [] by decide +kernel, joinL_nil]
  unfold ones
  rw [List.map_map]
  induction l with
  | nil => rfl
  | cons c l ih =>
    show [c] ++ (l.map _).flatten = c :: l
    rw [ih]
    rfl
theorem ones_sum (l : List Nat) : ((ones l).map (·.length)).sum = l.length := by
  unfold ones
  induction l with
  | nil => rfl
  | cons c l ih =>
    rw [List.map_cons, List.map_cons, List.sum_cons, ih, List.length_cons]
    show 1 + l.length = l.length + 1
    omega
end V


set_option Elab.async false
set_option linter.all false
set_option maxRecDepth 100000
set_option maxHeartbeats 4000000
namespace V
open PySem PySem.Spec PyProof.Rows L2 Evl
/-! ### data of any kind -/
section
variable {K : PySem.W.Frag} {H H' : Hp}
mutual
theorem dp_ex (e : Ex H H') : ∀ {v : V} {d : PyData}, Dp K H v d → Dp K H' v d
  | _, _, .non => .non
  | _, _, .bl b => .bl b
  | _, _, .int i => .int i
  | _, _, .str x => .str x
  | _, _, .lst h hs => .lst (ex_l e h) (dps_ex e hs)
  | _, _, .tup h hs => .tup (ex_t e h) (dps_ex e hs)
theorem dps_ex (e : Ex H H') : ∀ {vs : List V} {ds : List PyData}, DpAll K H vs ds → DpAll K H' vs ds
  | _, _, .nil => .nil
  | _, _, .cons h hs => .cons (dp_ex e h) (dps_ex e hs)
end
theorem dps_len : ∀ {vs : List V} {ds : List PyData}, DpAll K H vs ds → vs.length = ds.length
  | _, _, .nil => rfl
  | _, _, .cons _ hs => by rw [List.length_cons, List.length_cons, dps_len hs]
theorem dps_get : ∀ {vs : List V} {ds : List PyData}, DpAll K H vs ds → ∀ {i : Nat} {v : V}, vs[i]? = some v → ∃ d, ds[i]? = some d ∧ Dp K H v d
  | _, _, .nil, i, v, e => by simp at e
  | _, _, .cons h hs, 0, v, e => by
    cases Option.some.inj e
    exact ⟨_, rfl, h⟩
  | _, _, .cons h hs, i + 1, v, e => dps_get hs (i := i) (v := v) e
/-- the name of its class -/
def kind : PyData → String
  | .none => "NoneType"
  | .bool _ => "bool"
  | .int _ => "int"
  | .str _ => "str"
  | .list _ => "list"
  | .tuple _ => "tuple"
  | .dict _ => "dict"
theorem dp_ty {v : V} {d : PyData} (h : Dp K H v d) : TyX K H v (.type (kind d)) := by
  cases h with
  | non => exact .base .non
  | bl b => exact .base (.bl b)
  | int i => exact .base (.int i)
  | str x => exact .base (.str x)
  | lst h _ =>
    rcases h with (h | ⟨o, h⟩) | ⟨o, its, n, h, c, _⟩
    · exact .base (.lst h)
    · exact .base (.frz h)
    · exact .kList h c
  | tup h _ =>
    rcases h with (h | ⟨o, h⟩) | ⟨o, its, n, h, c, _⟩
    · exact .base (.tup h)
    · exact .fTuple h
    · exact .kTuple h c
end
def sgS : Str := "0123456789abcdefghijklmnopqrstuvwxyz #@();:"
def sgM : Str := "0123456789abcdefghijklmnopqrstuvwxyz"
theorem cut_sg : cutS sgS none (some 36) = sgM := by decide +kernel
/-- a text of six figures and letters -/
def isMarkD : PyData → Bool
  | .str x => x.length == 6 && x.cps.toList.all fun c => decide (c ∈ sgM.cps.toList)
  | _ => false
def isStrD : PyData → Bool
  | .str _ => true
  | _ => false
def isTupD : PyData → Bool
  | .tuple _ => true
  | _ => false
def isBoolD : PyData → Bool
  | .bool _ => true
  | _ => false
def isIntD : PyData → Bool
  | .int _ => true
  | .bool _ => true
  | _ => false
theorem kit_str : ∀ d : PyData, kitB (kind d) "str" = some (isStrD d)
  | .none => (by decide +kernel : kitB "NoneType" "str" = some false)
  | .bool _ => (by decide +kernel : kitB "bool" "str" = some false)
  | .int _ => (by decide +kernel : kitB "int" "str" = some false)
  | .str _ => (by decide +kernel : kitB "str" "str" = some true)
  | .list _ => (by decide +kernel : kitB "list" "str" = some false)
  | .tuple _ => (by decide +kernel : kitB "tuple" "str" = some false)
  | .dict _ => (by decide +kernel : kitB "dict" "str" = some false)
theorem kit_tup : ∀ d : PyData, kitB (kind d) "tuple" = some (isTupD d)
  | .none => (by decide +kernel : kitB "NoneType" "tuple" = some false)
  | .bool _ => (by decide +kernel : kitB "bool" "tuple" = some false)
  | .int _ => (by decide +kernel : kitB "int" "tuple" = some false)
  | .str _ => (by decide +kernel : kitB "str" "tuple" = some false)
  | .list _ => (by decide +kernel : kitB "list" "tuple" = some false)
  | .tuple _ => (by decide +kernel : kitB "tuple" "tuple" = some true)
  | .dict _ => (by decide +kernel : kitB "dict" "tuple" = some false)
theorem kit_bool : ∀ d : PyData, kitB (kind d) "bool" = some (isBoolD d)
  | .none => (by decide +kernel : kitB "NoneType" "bool" = some false)
  | .bool _ => (by decide +kernel : kitB "bool" "bool" = some true)
  | .int _ => (by decide +kernel : kitB "int" "bool" = some false)
  | .str _ => (by decide +kernel : kitB "str" "bool" = some false)
  | .list _ => (by decide +kernel : kitB "list" "bool" = some false)
  | .tuple _ => (by decide +kernel : kitB "tuple" "bool" = some false)
  | .dict _ => (by decide +kernel : kitB "dict" "bool" = some false)
theorem kit_int : ∀ d : PyData, kitB (kind d) "int" = some (isIntD d)
  | .none => (by decide +kernel : kitB "NoneType" "int" = some false)
  | .bool _ => (by decide +kernel : kitB "bool" "int" = some true)
  | .int _ => (by decide +kernel : kitB "int" "int" = some true)
  | .str _ => (by decide +kernel : kitB "str" "int" = some false)
  | .list _ => (by decide +kernel : kitB "list" "int" = some false)
  | .tuple _ => (by decide +kernel : kitB "tuple" "int" = some false)
  | .dict _ => (by decide +kernel : kitB "dict" "int" = some false)
def isNumD (most : Int) : PyData → Bool
  | .int i => decide (0 ≤ i) && decide (i ≤ most)
  | _ => false
def isPartsD : PyData → Bool
  | .tuple ds => decide (ds.length ≤ 4)
  | _ => false
/-- a test of one thing: its answer, all else as it was -/
def spTest (ok : PyData → Prop) (f : PyData → Bool) (K : PySem.W.Frag) : Sp := fun vs H Q _ => ∃ (v : V) (d : PyData), vs = [v] ∧ Dp K H v d ∧ ok d ∧ ∀ (H' : Hp), Ex H H' → Q (.bl (f d)) H'
def spNumTo (K : PySem.W.Frag) : Sp := fun vs H Q _ => ∃ (most : Int) (v : V) (d : PyData), vs = [.int most, v] ∧ Dp K H v d ∧ ∀ (H' : Hp), Ex H H' → Q (.bl (isNumD most d)) H'
/-- the texts in it are not too long, nor its lists -/
inductive Small : PyData → Prop where
  | non : Small .none
  | bl (b : Bool) : Small (.bool b)
  | int (i : Int) : Small (.int i)
  | str {x : Str} : x.length ≤ 100000 → Small (.str x)
  | lst {ds : List PyData} : ds.length ≤ 1000 → (∀ d ∈ ds, Small d) → Small (.list ds)
  | tup {ds : List PyData} : ds.length ≤ 1000 → (∀ d ∈ ds, Small d) → Small (.tuple ds)
section
variable {P : Program} {w : World} {K : PySem.W.Frag} {mg : Str → Option Value} {base : Heap}
theorem pe_ty {X : Cx} {T : String} {pos : Pos} (hm : X.mg (T : Str) = none) (hg : Gl X (T : Str) := by rfl) (hv : bootBuiltins (T : Str) = some (.type T) := by decide +kernel) (hn : (T : Str) ≠ "__name__" := by decide)
    (hd : ((T : Str) == ("__debug__" : Str)) = false := by decide) : PE X (.Name (T : Str) pos) (tC (.ty T)) := pe_bltn hg hm hv rfl hn hd
theorem pe_gi {X : Cx} {x : Str} {i : Int} {pos : Pos} (hm : ∃ t, X.mg x = some (.int i t)) (hg : Gl X x := by rfl) (hd : (x == ("__debug__" : Str)) = false := by decide) : PE X (.Name x pos) (tC (.int i)) := by
  obtain ⟨t, h⟩ := hm
  exact pe_glob hg h ⟨_, rfl⟩ hd
theorem pe_gs {X : Cx} {x z : Str} {pos : Pos} (hm : ∃ t, X.mg x = some (.str z t)) (hg : Gl X x := by rfl) (hd : (x == ("__debug__" : Str)) = false := by decide) : PE X (.Name x pos) (tC (.str z)) := by
  obtain ⟨t, h⟩ := hm
  exact pe_glob hg h ⟨_, rfl⟩ hd
theorem isi_at {H : Hp} {v : V} {d : PyData} {T : String} {b : Bool} (h : Dp K H v d) (e : kitB (kind d) T = some b) {Q : VK} (q : Q (.bl b) H) : rIsi K [v, .ty T] H Q :=
  ⟨v, .ty T, _, _, b, rfl, .ty T, dp_ty h, kit_ty e, q⟩
theorem all_take {p : Nat → Bool} {l : List Nat} : ((l.map p).all id) = l.all p := by
  rw [List.all_map]
  rfl
end
end V


set_option Elab.async false
set_option linter.all false
set_option maxRecDepth 100000
set_option maxHeartbeats 4000000
namespace V
open PySem PySem.Spec PyProof.Rows L2 Evl TL NumText
/-! ### what is built without a change of what is there: by the word of what comes -/
def Yl (te : TE) (σ : L2.St) (H : Hp) (R : Hp → V → Prop) : Prop := ∀ H1, Ex H H1 → ∀ Q : VK, (∀ H2 v, Ex H1 H2 → R H2 v → Q v H2) → te σ H1 Q
def Ya (ta : TA) (σ : L2.St) (H : Hp) (R : Hp → List V → Prop) : Prop := ∀ H1, Ex H H1 → ∀ Q : List V → Hp → Prop, (∀ H2 vs, Ex H1 H2 → R H2 vs → Q vs H2) → ta σ H1 Q
def TmR (t : Tm) : Hp → V → Prop := fun H v => TmAt H v t
def TmsR (ts : List Tm) : Hp → List V → Prop := fun H vs => TmsAt H vs ts
def ShS (x : Str) (m : Nat) : Hp → V → Prop := fun _ v => v = .str x ∧ x.length ≤ m
def IsV (w : V) : Hp → V → Prop := fun _ v => v = w
def IsVs (ws : List V) : Hp → List V → Prop := fun _ vs => vs = ws
section
variable {σ : L2.St} {H : Hp} {te tb : TE} {ta : TA}
theorem Yl.up {R : Hp → V → Prop} {H' : Hp} (h : Yl te σ H R) (e : Ex H H') : Yl te σ H' R := fun H1 e1 Q q => h H1 (e.trans e1) Q q
theorem Yl.imp {R R' : Hp → V → Prop} (h : Yl te σ H R) (f : ∀ H v, R H v → R' H v) : Yl te σ H R' := fun H1 e1 Q q => h H1 e1 Q fun H2 v e2 r => q H2 v e2 (f H2 v r)
theorem yl_c (v : V) : Yl (tC v) σ H (IsV v) := fun H1 e Q q => q H1 v (Ex.refl H1) rfl
theorem yl_s (x : Str) (m : Nat) (h : x.length ≤ m := by decide +kernel) : Yl (tC (.str x)) σ H (ShS x m) := fun H1 e Q q => q H1 _ (Ex.refl H1) ⟨rfl, h⟩
theorem yl_varT {i : Nat} {v : V} {t : Tm} (h : TmAt H v t) (hs : σ[i]? = some (some v) := by rfl) : Yl (tVar i) σ H (TmR t) := fun H1 e Q q => ⟨v, hs, q H1 v (Ex.refl H1) (h.ex e)⟩
theorem yl_varS {i : Nat} {x : Str} {m : Nat} (h : x.length ≤ m) (hs : σ[i]? = some (some (.str x)) := by rfl) : Yl (tVar i) σ H (ShS x m) := fun H1 e Q q => ⟨_, hs, q H1 _ (Ex.refl H1) ⟨rfl, h⟩⟩
theorem yl_varV {i : Nat} (v : V) (hs : σ[i]? = some (some v) := by rfl) : Yl (tVar i) σ H (IsV v) := fun H1 e Q q => ⟨_, hs, q H1 _ (Ex.refl H1) rfl⟩
theorem yl_add {x y : Str} {m n : Nat} (ha : Yl te σ H (ShS x m)) (hb : Yl tb σ H (ShS y n)) (k : m + n ≤ 1000 := by decide) :
    Yl (tOp (fun x y H Q => ∃ i j, x = .str i ∧ y = .str j ∧ i.length + j.length ≤ sizeLine ∧ Q (.str (i ++ j)) H) te tb) σ H (ShS (x ++ y) (m + n)) := fun H1 e Q q => by
  refine ha H1 e _ fun H2 v e2 ⟨r1, r2⟩ => hb H2 (e.trans e2) _ fun H3 u e3 ⟨r3, r4⟩ => ?_
  refine ⟨x, y, r1, r3, Nat.le_trans (by omega) (by decide : 1000 ≤ sizeLine), q H3 _ (e2.trans e3) ⟨rfl, ?_⟩⟩
  rw [str_len_append]
  omega
theorem ya_nil : Ya tNil σ H (IsVs []) := fun H1 e Q q => q H1 [] (Ex.refl H1) rfl
theorem ya_v {v : V} {vs : List V} (h : Ya ta σ H (IsVs vs)) : Ya (tCons (tC v) ta) σ H (IsVs (v :: vs)) := fun H1 e Q q => h H1 e _ fun H2 us e2 r => q H2 _ e2 (by rw [show us = vs from r]; rfl)
theorem ya_tnil : Ya tNil σ H (TmsR []) := fun H1 e Q q => q H1 [] (Ex.refl H1) .nil
theorem ya_t {t : Tm} {ts : List Tm} (h : Yl te σ H (TmR t)) (hs : Ya ta σ H (TmsR ts)) : Ya (tCons te ta) σ H (TmsR (t :: ts)) := fun H1 e Q q =>
  h H1 e _ fun H2 v e2 r => hs H2 (e.trans e2) _ fun H3 vs e3 rs => q H3 _ (e2.trans e3) (.cons (TmAt.ex r e3) rs)
theorem tms_len {vs : List V} {ts : List Tm} (h : TmsAt H vs ts) (k : ts.length ≤ 4) : vs.length + 3 ≤ sizeLine := by
  rw [h.length]
  exact Nat.le_trans (by omega) (by decide : 7 ≤ sizeLine)
theorem yl_op (o : Op) {ts : List Tm} (h : Ya ta σ H (TmsR ts)) (k : ts.length ≤ 4 := by exact Nat.le_of_ble_eq_true rfl) : Yl (tTup (tCons (tC (.str o.str)) ta)) σ H (TmR (.node (.op o) ts)) := fun H1 e Q q =>
  h H1 e _ fun H2 vs e2 r => ⟨by have := tms_len r k; rw [List.length_cons]; omega, fun p hp => q _ _ (e2.trans (Ex.new hp)) (.op upd_same (TmsAt.ex r (Ex.new hp)))⟩
theorem yl_call (m : Str) {ts : List Tm} (h : Ya ta σ H (TmsR ts)) (k : ts.length ≤ 4 := by exact Nat.le_of_ble_eq_true rfl) : Yl (tTup (tCons (tC (.str "call")) (tCons (tC (.str m)) (tCons (tTup ta) tNil)))) σ H (TmR (.node (.call m) ts)) := fun H1 e Q q =>
  h H1 e _ fun H2 vs e2 r => ⟨by have := tms_len r k; omega, fun p hp => ⟨sz 3, fun p2 hp2 => by
    have f1 := Ex.new (o := .tup vs) hp
    have f2 := Ex.new (o := .tup [.str "call", .str m, .ref p]) hp2
    exact q _ _ (e2.trans (f1.trans f2)) (.call upd_same (f2 p _ upd_same) (TmsAt.ex r (f1.trans f2)))⟩⟩
theorem yl_ring (j : Nat) {ts : List Tm} (h : Ya ta σ H (TmsR ts)) (k : ts.length ≤ 4 := by exact Nat.le_of_ble_eq_true rfl) : Yl (tTup (tCons (tC (.str "ring")) (tCons (tC (.int (j : Int))) (tCons (tTup ta) tNil)))) σ H (TmR (.node (.ring j) ts)) := fun H1 e Q q =>
  h H1 e _ fun H2 vs e2 r => ⟨by have := tms_len r k; omega, fun p hp => ⟨sz 3, fun p2 hp2 => by
    have f1 := Ex.new (o := .tup vs) hp
    have f2 := Ex.new (o := .tup [.str "ring", .int (j : Int), .ref p]) hp2
    exact q _ _ (e2.trans (f1.trans f2)) (.ring upd_same (f2 p _ upd_same) (TmsAt.ex r (f1.trans f2)))⟩⟩
theorem yl_num {n : Nat} (h : Yl te σ H (IsV (.int (n : Int)))) : Yl (tTup (tCons (tC (.str "num")) (tCons te tNil))) σ H (TmR (.num n)) := fun H1 e Q q =>
  h H1 e _ fun H2 v e2 r => ⟨sz 2, fun p hp => q _ _ (e2.trans (Ex.new hp)) (.num (by rw [show v = .int (n : Int) from r, upd_same]))⟩
theorem yl_arg {n : Nat} (h : Yl te σ H (IsV (.int (n : Int)))) : Yl (tTup (tCons (tC (.str "arg")) (tCons te tNil))) σ H (TmR (.arg n)) := fun H1 e Q q =>
  h H1 e _ fun H2 v e2 r => ⟨sz 2, fun p hp => q _ _ (e2.trans (Ex.new hp)) (.arg (by rw [show v = .int (n : Int) from r, upd_same]))⟩
/-- a term and what is written of it -/
def Good (t : Tm) (ms : List Str) : Prop := t.Ok 11 ∧ t.deep ≤ 6 ∧ t.size ≤ 100 ∧ t.txt.length ≤ 1000 ∧ ms.length ≤ 100 ∧ ms.Pairwise tlt ∧ ∀ x, x ∈ ms ↔ x ∈ t.marks
def KnAt (N : Addr → Prop) (H : Hp) (v : V) (t : Tm) : Prop := ∃ (a : Addr) (tv : V) (c q : Addr) (ms : List Str), v = .ref a ∧ H a = some (.tup [tv, .str t.txt, .int (t.deep : Int), .int (t.size : Int), .ref c, .ref q]) ∧ TmAt H tv t ∧
  H c = some (.lst (ms.map V.str)) ∧ H q = some (.lst (t.places.map fun k : Nat => V.int (k : Int))) ∧ ¬ N c ∧ ¬ N q ∧ Good t ms
theorem KnAt.ex {N : Addr → Prop} {v : V} {t : Tm} {H' : Hp} (h : KnAt N H v t) (e : Ex H H') : KnAt N H' v t := by
  obtain ⟨a, tv, c, q, ms, h1, h2, h3, h4, h5, h6⟩ := h
  exact ⟨a, tv, c, q, ms, h1, e _ _ h2, h3.ex e, e _ _ h4, e _ _ h5, h6⟩
theorem KnAt.but {p : Addr} {v : V} {t : Tm} {H' : Hp} {xs : List V} (h : KnAt (· = p) H v t) (hp : H p = some (.lst xs)) (e : But p H H') : KnAt (· = p) H' v t := by
  obtain ⟨a, tv, c, q, ms, h1, h2, h3, h4, h5, h6, h7, h8⟩ := h
  have tu := e.tu hp
  exact ⟨a, tv, c, q, ms, h1, tu _ _ h2, h3.tu tu, e _ _ h6 h4, e _ _ h7 h5, h6, h7, h8⟩
theorem KnAt.new {p : Addr} {v : V} {t : Tm} {o : HO} (h : KnAt (fun _ => False) H v t) (hp : H p = none) : KnAt (· = p) (upd H p o) v t := by
  obtain ⟨a, tv, c, q, ms, h1, h2, h3, h4, h5, h6, h7, h8⟩ := h
  have e := Ex.new (o := o) hp
  exact ⟨a, tv, c, q, ms, h1, e _ _ h2, h3.ex e, e _ _ h4, e _ _ h5, (fun (z : c = p) => by rw [z, hp] at h4; cases h4), (fun (z : q = p) => by rw [z, hp] at h5; cases h5), h8⟩
theorem yl_kn {N : Addr → Prop} {t : Tm} {ms : List Str} {m : Nat} {d z : Int} {ca qa : TA} {tx : TE} {qs : List V} (hN : ∀ c, N c → H c ≠ none) (g : Good t ms) (h1 : Yl te σ H (TmR t)) (h2 : Yl tx σ H (ShS t.txt m)) (hd : d = (t.deep : Int)) (hz : z = (t.size : Int))
    (hc : Ya ca σ H (IsVs (ms.map V.str))) (hq : Ya qa σ H (IsVs qs)) (eq_ : qs = t.places.map fun k : Nat => V.int (k : Int)) (few : t.places.length ≤ 100) :
    Yl (tTup (tCons te (tCons tx (tCons (tC (.int d)) (tCons (tC (.int z)) (tCons (tLst ca) (tCons (tLst qa) tNil))))))) σ H (fun H v => KnAt N H v t) := fun H1 e Q q =>
  h1 H1 e _ fun H2 v e2 r => h2 H2 (e.trans e2) _ fun H3 u e3 ⟨s1, s2⟩ => hc H3 (e.trans (e2.trans e3)) _ fun H4 cs e4 rc => by
    have rc' : cs = ms.map V.str := rc
    subst rc'
    refine ⟨by rw [List.length_map]; exact Nat.le_trans g.2.2.2.2.1 (by decide), fun c hcn => ?_⟩
    have f1 := Ex.new (o := .lst (ms.map V.str)) hcn
    refine hq _ (e.trans (e2.trans (e3.trans (e4.trans f1)))) _ fun H5 us e5 rq => ?_
    have rq' : us = t.places.map fun k : Nat => V.int (k : Int) := (show us = qs from rq).trans eq_
    subst rq'
    refine ⟨by rw [List.length_map]; exact Nat.le_trans few (by decide), fun q1 hq1 => ⟨sz 6, fun p hp => ?_⟩⟩
    have f2 := Ex.new (o := .lst (t.places.map fun k : Nat => V.int (k : Int))) hq1
    have f3 := Ex.new (o := .tup [v, u, .int d, .int z, .ref c, .ref q1]) hp
    have hh : Ex H H4 := e.trans (e2.trans (e3.trans e4))
    refine q _ _ (e2.trans (e3.trans (e4.trans (f1.trans (e5.trans (f2.trans f3)))))) ⟨p, v, c, q1, ms, rfl, by rw [upd_same, s1, hd, hz], TmAt.ex r (e3.trans (e4.trans (f1.trans (e5.trans (f2.trans f3))))), (f2.trans f3) _ _ (e5 _ _ upd_same), f3 _ _ upd_same, ?_, ?_, g⟩
    · intro n
      have n0 := hN c n
      cases w : H c with
      | none => exact n0 w
      | some o =>
        rw [hh _ _ w] at hcn
        cases hcn
    · intro n
      have n0 := hN q1 n
      cases w : H q1 with
      | none => exact n0 w
      | some o =>
        rw [e5 _ _ (f1 _ _ (hh _ _ w))] at hq1
        cases hq1
end
inductive KnsAt (N : Addr → Prop) (H : Hp) : List V → List Tm → Prop where
  | nil : KnsAt N H [] []
  | cons {v : V} {vs : List V} {t : Tm} {ts : List Tm} : KnAt N H v t → KnsAt N H vs ts → KnsAt N H (v :: vs) (t :: ts)
theorem KnsAt.map {N N' : Addr → Prop} {H H' : Hp} (f : ∀ v t, KnAt N H v t → KnAt N' H' v t) : ∀ {vs : List V} {ts : List Tm}, KnsAt N H vs ts → KnsAt N' H' vs ts
  | _, _, .nil => .nil
  | _, _, .cons h hs => .cons (f _ _ h) (hs.map f)
theorem KnsAt.add {N : Addr → Prop} {H : Hp} {v : V} {t : Tm} (h : KnAt N H v t) : ∀ {vs : List V} {ts : List Tm}, KnsAt N H vs ts → KnsAt N H (vs ++ [v]) (ts ++ [t])
  | _, _, .nil => .cons h .nil
  | _, _, .cons k ks => .cons k (ks.add h)
theorem KnsAt.len {N : Addr → Prop} {H : Hp} : ∀ {vs : List V} {ts : List Tm}, KnsAt N H vs ts → vs.length = ts.length
  | _, _, .nil => rfl
  | _, _, .cons _ hs => by rw [List.length_cons, List.length_cons, hs.len]
theorem KnsAt.get {N : Addr → Prop} {H : Hp} : ∀ {vs : List V} {ts : List Tm}, KnsAt N H vs ts → ∀ {i : Nat} {v : V}, vs[i]? = some v → ∃ t, ts[i]? = some t ∧ KnAt N H v t
  | _, _, .nil, i, v, e => by simp at e
  | _, _, .cons h hs, 0, v, e => by
    cases Option.some.inj e
    exact ⟨_, rfl, h⟩
  | _, _, .cons h hs, i + 1, v, e => hs.get (i := i) (v := v) e
end V


set_option Elab.async false
set_option linter.all false
set_option maxRecDepth 100000
set_option maxHeartbeats 400000
namespace V
open PySem PySem.Spec PyProof.Rows L2 Evl TL NumText
/-! ### drawn terms -/
def Hd.L : Hd → List V
  | .op o => [.str o.str]
  | .call m => [.str "call", .str m]
  | .ring p => [.str "ring", .int (p : Int)]
def Hd.notOp : Hd → Bool
  | .op _ => false
  | _ => true
def Hd.pyd : Hd → PyData
  | .op o => .tuple [.str o.str]
  | .call m => .tuple [.str "call", .str m]
  | .ring p => .tuple [.str "ring", .int (p : Int)]
def HdAt (H : Hp) (v : V) (x : Hd × Nat) : Prop := ∃ a c, v = .ref a ∧ H a = some (.tup [.ref c, .int (x.2 : Int)]) ∧ H c = some (.tup x.1.L)
theorem HdAt.tu {H H' : Hp} (e : Tu H H') {v : V} {x : Hd × Nat} (h : HdAt H v x) : HdAt H' v x := by
  obtain ⟨a, c, h1, h2, h3⟩ := h
  exact ⟨a, c, h1, e _ _ h2, e _ _ h3⟩
theorem HdAt.dp {K : PySem.W.Frag} {H : Hp} {v : V} {h : Hd} {s : Nat} (k : HdAt H v (h, s)) : Dp K H v (.tuple [h.pyd, .int (s : Int)]) := by
  obtain ⟨a, c, rfl, h2, h3⟩ := k
  refine .tup (SqT.of h2) (.cons ?_ (.cons (.int _) .nil))
  cases h with
  | op o => exact .tup (SqT.of h3) (.cons (.str _) .nil)
  | call m => exact .tup (SqT.of h3) (.cons (.str _) (.cons (.str _) .nil))
  | ring p => exact .tup (SqT.of h3) (.cons (.str _) (.cons (.int _) .nil))
/-- four heads of calls -/
structure Heads (H : Hp) (hp : Addr) : Prop where
  ex : ∃ (v1 v2 v3 v4 : V) (m1 m2 : Str) (p1 p2 s1 s2 s3 s4 : Nat), H hp = some (.lst [v1, v2, v3, v4]) ∧ HdAt H v1 (.call m1, s1) ∧ HdAt H v2 (.call m2, s2) ∧ HdAt H v3 (.ring p1, s3) ∧ HdAt H v4 (.ring p2, s4) ∧
    isMk m1 ∧ isMk m2 ∧ p1 ≤ 11 ∧ p2 ≤ 11 ∧ s1 ≤ 4 ∧ s2 ≤ 4 ∧ s3 ≤ 4 ∧ s4 ≤ 4
theorem Heads.but {H H' : Hp} {hp b : Addr} {xs : List V} (h : Heads H hp) (hb : H b = some (.lst xs)) (n : hp ≠ b) (e : But b H H') : Heads H' hp := by
  obtain ⟨v1, v2, v3, v4, m1, m2, p1, p2, s1, s2, s3, s4, h0, h1, h2, h3, h4, r⟩ := h.ex
  have tu := e.tu hb
  exact ⟨v1, v2, v3, v4, m1, m2, p1, p2, s1, s2, s3, s4, e _ _ n h0, h1.tu tu, h2.tu tu, h3.tu tu, h4.tu tu, r⟩
/-- one of them -/
theorem Heads.get {H : Hp} {hp : Addr} (h : Heads H hp) : ∃ vs, H hp = some (.lst vs) ∧ vs.length = 4 ∧ ∀ i : Nat, i < 4 → ∃ v hd s, vs[i]? = some v ∧ HdAt H v (hd, s) ∧ hd.notOp = true ∧ hd.ok 11 s := by
  obtain ⟨v1, v2, v3, v4, m1, m2, p1, p2, s1, s2, s3, s4, h0, h1, h2, h3, h4, r1, r2, r3, r4, r5, r6, r7, r8⟩ := h.ex
  refine ⟨_, h0, rfl, fun i hi => ?_⟩
  match i, hi with
  | 0, _ => exact ⟨v1, _, s1, rfl, h1, rfl, r1, r5⟩
  | 1, _ => exact ⟨v2, _, s2, rfl, h2, rfl, r2, r6⟩
  | 2, _ => exact ⟨v3, _, s3, rfl, h3, rfl, r3, r7⟩
  | 3, _ => exact ⟨v4, _, s4, rfl, h4, rfl, r4, r8⟩
theorem mk_lay {m : Str} (h : isMk m) : PyData.canLay0 (.str m) = true := by
  have e : PyData.canLay0 (.str m) = m.cps.all (· < 0x110000) := by
    simp only [PyData.canLay0]
    rfl
  rw [e, ← Array.all_toList, List.all_eq_true]
  intro c hc
  have := h.2 c hc
  exact decide_eq_true (by omega)
theorem Heads.dp {K : PySem.W.Frag} {H : Hp} {hp : Addr} (h : Heads H hp) : ∃ d, Dp K H (.ref hp) d ∧ SeqAt.shaped d = true ∧ PyData.eqv d (.list []) = false := by
  obtain ⟨v1, v2, v3, v4, m1, m2, p1, p2, s1, s2, s3, s4, h0, h1, h2, h3, h4, r⟩ := h.ex
  refine ⟨_, .lst (SqL.of h0) (.cons h1.dp (.cons h2.dp (.cons h3.dp (.cons h4.dp .nil)))), ?_, ?_⟩
  · have k1 := mk_lay r.1
    have k2 := mk_lay r.2.1
    have c1 : PyData.canLay0 (.str "call") = true := by decide +kernel
    have c2 : PyData.canLay0 (.str "ring") = true := by decide +kernel
    unfold SeqAt.shaped
    simp only [Hd.pyd, PyData.canLay0, PyData.canLayAll0, PyData.depth, PyData.depthAll] at k1 k2 c1 c2 ⊢
    rw [k1, k2, c1, c2]
    decide
  · simp only [PyData.eqv, PyData.eqvAll]
def cost : Nat → Nat
  | 0 => 0
  | d + 1 => 5 + 4 * cost d
def most : Nat → Nat
  | 0 => 0
  | d + 1 => 1 + 4 * most d
/-- what comes of a draw of a term -/
def Drawn (b : Addr) (n d : Nat) (H : Hp) (Q : VK) : Prop := ∀ (H' : Hp) (v : V) (t : Tm), But b H H' → Box H' b n → TmAt H' v t → t.Ok 11 → t.deep ≤ d → t.size ≤ most d → Q v H'
def spTerm (d : Nat) : Sp := fun vs H Q _ => ∃ (b hp : Addr) (n many tall : Nat), vs = [.ref b, .int (many : Int), .ref hp, .int (tall : Int)] ∧ Box H b (n + cost d) ∧ 1 ≤ tall ∧ tall ≤ d ∧ 1 ≤ many ∧ many ≤ 4 ∧ hp ≠ b ∧ Heads H hp ∧ Drawn b n d H Q
theorem most_mono {a b : Nat} (h : a ≤ b) : most a ≤ most b := by
  induction b generalizing a with
  | zero => rw [Nat.le_zero.mp h]; exact Nat.le_refl _
  | succ b ih =>
    cases a with
    | zero => exact Nat.zero_le _
    | succ a =>
      have := ih (Nat.le_of_succ_le_succ h)
      show 1 + 4 * most a ≤ 1 + 4 * most b
      omega
end V


set_option Elab.async false
set_option linter.all false
set_option maxRecDepth 100000
set_option maxHeartbeats 400000
namespace V
open PySem PySem.Spec PyProof.Rows L2 Evl TL NumText
/-- from A a statement goes on to B -/
def Hs (t : TS) (A B : L2.St → Hp → Prop) : Prop := ∀ (D : Ends) (σ : L2.St) (H : Hp), A σ H → (∀ σ' H', B σ' H' → D.nx σ' H') → t D σ H
def He1 (t : TS) (A : L2.St → Hp → Prop) (Q : VK) : Prop := ∀ (D : Ends) (σ : L2.St) (H : Hp), A σ H → (∀ v H', Q v H' → D.rt v H') → t D σ H
theorem Hs.fin {t u : TS} {A B : L2.St → Hp → Prop} {Q : VK} (h1 : Hs t A B) (h2 : He1 u B Q) : He1 (tSeq t u) A Q := fun D σ H a k => h1 { D with nx := u D } σ H a fun σ' H' b => h2 D σ' H' b k
theorem dec_ii {a b : Int} : decide (V.int a = V.int b) = decide (a = b) := by
  rw [decide_eq_decide]
  exact ⟨V.int.inj, congrArg V.int⟩
theorem deeps_le (ts : List Tm) (m : Nat) (h : ∀ t ∈ ts, t.deep ≤ m) : Tm.deeps ts ≤ m := by
  induction ts with
  | nil => exact Nat.zero_le _
  | cons t r ih =>
    have h1 := h t (List.mem_cons_self ..)
    have h2 := ih fun u hu => h u (List.mem_cons_of_mem _ hu)
    show max t.deep (Tm.deeps r) ≤ m
    omega
theorem sizes_le (ts : List Tm) (m : Nat) (h : ∀ t ∈ ts, t.size ≤ m) : Tm.sizes ts ≤ ts.length * m := by
  induction ts with
  | nil => exact Nat.zero_le _
  | cons t r ih =>
    have h1 := h t (List.mem_cons_self ..)
    have h2 := ih fun u hu => h u (List.mem_cons_of_mem _ hu)
    show t.size + Tm.sizes r ≤ (r.length + 1) * m
    rw [Nat.add_mul, Nat.one_mul]
    omega
end V


set_option Elab.async false
set_option linter.all false
set_option maxRecDepth 100000
set_option maxHeartbeats 4000000
namespace V
open PySem PySem.Spec PyProof.Rows L2 Evl

end V


set_option Elab.async false
set_option linter.all false
set_option maxRecDepth 100000
set_option maxHeartbeats 4000000
namespace V
open PySem PySem.Spec PyProof.Rows L2 Evl
/-- d[key] of a written dict -/
def rIxD (K : PySem.W.Frag) (d : Addr) : R2 := fun x y H Q => ∃ (z : Str) (u0 : Value) (v0 : V), x = .ref d ∧ y = .str z ∧ PySem.W.nsIn K d z = some (some u0) ∧ RelV v0 u0 ∧ Q v0 H
theorem ix_kd {X : Cx} {d : Addr} {es : Array DictEntry} {n : Nat} (D : KDict X.K X.w d es n) : IxR X (rIxD X.K d) := by
  intro value slice pins s σ H x y v u Q I rx ry h hs
  obtain ⟨z, u0, v0, rfl, rfl, e, r, q⟩ := h
  cases rx
  exact tail_any (kd_type D I) PySem.F.slot_dict_getitem.lookup (op_item_kd D pins s σ H (.ref d) (.str z) _ _ Q I rfl ry ⟨z, u0, v0, rfl, rfl, e, r, q⟩) hs
def arOf (z : Str) : Nat := if z = "if" then 3 else 2
theorem op_of {z : Str} (h : z ∈ opWords) : ∃ o : Op, z = o.str ∧ arOf z = o.ar := by
  have h2 : z = "add" ∨ z = "less" ∨ z = "times" ∨ z = "under" ∨ z = "if" := by
    simpa [opWords] using h
  rcases h2 with rfl | rfl | rfl | rfl | rfl
  · exact ⟨.add, rfl, by decide +kernel⟩
  · exact ⟨.less, rfl, by decide +kernel⟩
  · exact ⟨.times, rfl, by decide +kernel⟩
  · exact ⟨.under, rfl, by decide +kernel⟩
  · exact ⟨.cond, rfl, by decide +kernel⟩
def one1 (f : PyData → Bool) : List PyData → Bool
  | [d] => f d
  | _ => false
def two2 (f g : PyData → Bool) : List PyData → Bool
  | [d, e] => f d && g e
  | _ => false
/-- it would be a term if its parts were -/
def headD : PyData → Bool
  | .tuple (.str z :: r) =>
    if z ∈ opWords then decide (r.length = arOf z)
    else if z = "num" then one1 (isNumD 1000002) r
    else if z = "arg" then one1 (isNumD 3) r
    else if z = "call" then two2 isMarkD isPartsD r
    else if z = "ring" then two2 (isNumD 11) isPartsD r
    else false
  | _ => false
theorem len_ne {xs : List V} {n : Int} (h : (xs.length : Int) ≠ n) : decide (V.int (xs.length : Int) = V.int n) = false := decide_eq_false fun z => h (V.int.inj z)
end V


set_option Elab.async false
set_option linter.all false
set_option maxRecDepth 100000
set_option maxHeartbeats 4000000
namespace V
open PySem PySem.Spec PyProof.Rows L2 Evl
def second : List PyData → List PyData
  | [_, .tuple ds] => ds
  | _ => []
/-- what would be its parts, of what is headed -/
def partsD : PyData → List PyData
  | .tuple (.str z :: r) => if z ∈ opWords then r else second r
  | _ => []
def isTm : Nat → PyData → Bool
  | 0, _ => false
  | n + 1, d => headD d && (partsD d).all (isTm n)
theorem Small.parts {d e : PyData} (s : Small d) (h : e ∈ partsD d) : Small e := by
  cases s with
  | tup h1 hk =>
    rename_i ds
    cases ds with
    | nil => cases h
    | cons c r =>
      cases c with
      | str z =>
        have h' : e ∈ (if z ∈ opWords then r else second r) := h
        split at h'
        · exact hk e (List.mem_cons_of_mem _ h')
        · unfold second at h'
          split at h'
          · rename_i x ds
            have := hk (.tuple ds) (by simp)
            cases this with
            | tup _ k2 => exact k2 e h'
          · cases h'
      | _ => cases h
  | _ => cases h
theorem Small.few {d : PyData} (s : Small d) : (partsD d).length ≤ 1000 := by
  cases s with
  | tup h1 hk =>
    rename_i ds
    cases ds with
    | nil => exact Nat.zero_le _
    | cons c r =>
      rw [List.length_cons] at h1
      cases c with
      | str z =>
        show (if z ∈ opWords then r else second r).length ≤ 1000
        split
        · omega
        · unfold second
          split
          · rename_i x ds
            have := hk (.tuple ds) (by simp)
            cases this with
            | tup k1 _ => exact k1
          · exact Nat.zero_le _
      | _ => exact Nat.zero_le _
  | _ => exact Nat.zero_le _
def spPartsD (K : PySem.W.Frag) : Sp := fun vs H Q _ => ∃ (v : V) (d : PyData), vs = [v] ∧ Dp K H v d ∧ headD d = true ∧
  ∀ (H' : Hp) (p : Addr) (us : List V), Ex H H' → SqT K H' p us → DpAll K H' us (partsD d) → Q (.ref p) H'
def spWithin (K : PySem.W.Frag) (n : Nat) : Sp := fun vs H Q _ => ∃ (m : Nat) (v : V) (d : PyData), vs = [.int (m : Int), v] ∧ m ≤ n ∧ Dp K H v d ∧ Small d ∧ ∀ (H' : Hp), Ex H H' → Q (.bl (isTm m d)) H'
theorem cut_tail (v : V) (ws : List V) : cutV (v :: ws) (some 1) none = ws := by
  show cutV (v :: ws) (some ((1 : Nat) : Int)) none = ws
  unfold cutV
  rw [HT.sIx_nat, HT.sIx_none, List.length_cons, Nat.min_eq_left (by omega)]
  show (List.take (ws.length + 1 - 1) ws) = ws
  exact List.take_length
end V


set_option Elab.async false
set_option linter.all false
set_option maxRecDepth 100000
set_option maxHeartbeats 4000000
namespace V
open PySem PySem.Spec PyProof.Rows L2 Evl TL NumText
def spHeadText : Sp := fun vs H Q _ => ∃ (v : V) (h : Hd) (ts : List Tm) (M : Nat), vs = [v] ∧ TmAt H v (.node h ts) ∧ h.ok M ts.length ∧ M ≤ 1000000 ∧ ∀ (H' : Hp), Ex H H' → Q (.str h.S) H'
def spText (n : Nat) : Sp := fun vs H Q _ => ∃ (v : V) (t : Tm) (M : Nat), vs = [v] ∧ TmAt H v t ∧ t.Ok M ∧ M ≤ 1000000 ∧ t.deep ≤ n ∧ t.size ≤ 1000 ∧ ∀ (H' : Hp), Ex H H' → Q (.str t.txt) H'
end V


set_option Elab.async false
set_option linter.all false
set_option maxRecDepth 100000
set_option maxHeartbeats 4000000
namespace V
open PySem PySem.Spec PyProof.Rows L2 Evl TL NumText
/-! ### numbers of texts -/
def figs : List Nat := [48, 49, 50, 51, 52, 53, 54, 55, 56, 57]
theorem figs_iff (c : Nat) : c ∈ figs ↔ 48 ≤ c ∧ c ≤ 57 := by
  unfold figs
  simp only [List.mem_cons, List.not_mem_nil, or_false]
  omega
def isNumL (l : List Nat) : Bool := decide (1 ≤ l.length) && decide (l.length ≤ 7) && l.all (fun c => decide (c ∈ figs)) && decide (digitsVal l ≤ 1000002) && decide (TL.numL (digitsVal l) = l)
/-- the number that it writes -/
def numV (z : Str) : V := if isNumL (tl z) then .int ((digitsVal (tl z) : Nat) : Int) else .non
theorem numV_nt {n : Nat} (h : n ≤ 1000002) : numV (nt n) = .int (n : Int) := by
  have e : tl (nt n) = TL.numL n := tl_nt n
  have d := TL.numL_digits n
  unfold numV
  rw [e, TL.numL_val]
  refine if_pos ?_
  unfold isNumL
  rw [TL.numL_val]
  simp only [Bool.and_eq_true, decide_eq_true_eq, List.all_eq_true]
  refine ⟨⟨⟨⟨?_, ?_⟩, fun c hc => (figs_iff c).mpr (d c hc)⟩, h⟩, trivial⟩
  · exact List.length_pos_iff.mpr (TL.numL_ne n)
  · have := nt_len (n := n) (by omega)
    rw [len_tl, e] at this
    exact this
def spNumIn : Sp := fun vs H Q _ => ∃ z : Str, vs = [.str z] ∧ z.length ≤ 1000000 ∧ ∀ (H' : Hp), Ex H H' → Q (numV z) H'
theorem nat_le_int {a b : Nat} : decide ((a : Int) ≤ (b : Int)) = decide (a ≤ b) := by
  rw [decide_eq_decide]
  omega
def figS : Str := "0123456789"
theorem figS_tl : figS.cps.toList = figs := by decide +kernel
end V


set_option Elab.async false
set_option linter.all false
set_option maxRecDepth 100000
set_option maxHeartbeats 4000000
namespace V
open PySem PySem.Spec PyProof.Rows L2 Evl TL NumText
/-! ### words of texts -/
def letters : List Str := ["a", "b", "c", "d"]
def lix (z : Str) : Option Nat := if z = "a" then some 0 else if z = "b" then some 1 else if z = "c" then some 2 else if z = "d" then some 3 else none
def leafL (z : Str) : List V := match lix z with
  | some k => [.str "arg", .int (k : Int)]
  | none => [.str "num", numV z]
theorem lix_some {z : Str} {k : Nat} (h : lix z = some k) : letters[k]? = some z ∧ ∀ m, m < k → letters[m]? ≠ some z := by
  unfold lix at h
  split at h
  · rename_i e
    cases h
    subst e
    exact ⟨rfl, fun m hm => absurd hm (by omega)⟩
  split at h
  · rename_i e
    cases h
    subst e
    exact ⟨rfl, by decide +kernel⟩
  split at h
  · rename_i e
    cases h
    subst e
    exact ⟨rfl, by decide +kernel⟩
  split at h
  · rename_i e
    cases h
    subst e
    exact ⟨rfl, by decide +kernel⟩
  · cases h
theorem lix_in (z : Str) : inV (.str z) [.str "a", .str "b", .str "c", .str "d"] = (lix z).isSome := by
  have e : inV (.str z) [.str "a", .str "b", .str "c", .str "d"] = ((("a" : Str) == z) || ((("b" : Str) == z) || ((("c" : Str) == z) || ((("d" : Str) == z) || false)))) := rfl
  rw [e]
  unfold lix
  by_cases c1 : z = "a"
  · subst c1; decide +kernel
  by_cases c2 : z = "b"
  · subst c2; decide +kernel
  by_cases c3 : z = "c"
  · subst c3; decide +kernel
  by_cases c4 : z = "d"
  · subst c4; decide +kernel
  rw [if_neg c1, if_neg c2, if_neg c3, if_neg c4, beq_eq_false_iff_ne.mpr (Ne.symm c1), beq_eq_false_iff_ne.mpr (Ne.symm c2), beq_eq_false_iff_ne.mpr (Ne.symm c3), beq_eq_false_iff_ne.mpr (Ne.symm c4)]
  rfl
def spLeaf : Sp := fun vs H Q _ => ∃ z : Str, vs = [.str z] ∧ z.length ≤ 1000000 ∧ ∀ (H' : Hp) (p : Addr), Ex H H' → H' p = some (.tup (leafL z)) → Q (.ref p) H'
/-- blank, brackets -/
def stops : List Nat := [32, 40, 41]
def stopS : Str := " ()"
theorem stopS_tl : stopS.cps.toList = stops := by decide +kernel
def spWordAt : Sp := fun vs H Q _ => ∃ (z x : Str) (a b : List Nat), vs = [.str z, .int (a.length : Int)] ∧ z.length ≤ 1000000 ∧ tl z = a ++ (tl x ++ b) ∧ (∀ c ∈ tl x, c ∉ stops) ∧ (∀ c, b.head? = some c → c ∈ stops) ∧
  ∀ (H' : Hp), Ex H H' → Q (.str x) H'
theorem cut_mid {z x : Str} {a b : List Nat} (h : tl z = a ++ (tl x ++ b)) : cutS z (some (a.length : Int)) (some ((a.length + x.length : Nat) : Int)) = x := by
  have hz : z.length = a.length + (x.length + b.length) := by
    rw [len_tl, h, List.length_append, List.length_append, ← len_tl]
  unfold cutS
  rw [HT.sIx_nat, HT.sIx_nat, Nat.min_eq_left (by omega), Nat.min_eq_left (by omega)]
  refine ext_tl ?_
  show List.take _ (List.drop _ (tl z)) = tl x
  rw [h, List.drop_left, show a.length + x.length - a.length = (tl x).length by rw [← len_tl]; omega, List.take_left]
end V


set_option Elab.async false
set_option linter.all false
set_option maxRecDepth 100000
set_option maxHeartbeats 4000000
namespace V
open PySem PySem.Spec PyProof.Rows L2 Evl TL NumText
/-! ### terms of texts -/
/-- the parts, a blank ahead of each -/
def tails (ts : List Tm) : List Nat := ts.flatMap fun t => 32 :: tl t.txt
theorem join_tails (x : List Nat) (ts : List Tm) : joinL [32] (x :: (ts.map fun t => tl t.txt)) = x ++ tails ts := by
  induction ts generalizing x with
  | nil => show x = x ++ []; rw [List.append_nil]
  | cons t ts ih =>
    show x ++ ([32] ++ joinL [32] (tl t.txt :: ts.map fun t => tl t.txt)) = x ++ ((32 :: tl t.txt) ++ tails ts)
    rw [ih]
    rfl
theorem tl_node (h : Hd) (ts : List Tm) : tl (Tm.node h ts).txt = 40 :: (tl h.S ++ (tails ts ++ [41])) := by
  show tl (("(" : Str) ++ Str.join " " (h.S :: Tm.txts ts) ++ ")") = _
  have o1 : tl ("(" : Str) = [40] := by decide +kernel
  have o2 : tl (")" : Str) = [41] := by decide +kernel
  have o3 : tl (" " : Str) = [32] := by decide +kernel
  rw [tl_append, tl_append, tl_join, o1, o2, o3, txts_map, List.map_cons, List.map_map]
  show [40] ++ joinL [32] (tl h.S :: ts.map fun t => tl t.txt) ++ [41] = _
  rw [join_tails, List.append_assoc, List.append_assoc]
  rfl
theorem tails_take {ts : List Tm} {i : Nat} {t : Tm} (h : ts[i]? = some t) : tails ts = tails (ts.take i) ++ (32 :: (tl t.txt ++ tails (ts.drop (i + 1)))) := by
  have hi := (List.getElem?_eq_some_iff.mp h)
  obtain ⟨h1, h2⟩ := hi
  conv => lhs; rw [← List.take_append_drop i ts, List.drop_eq_getElem_cons h1, h2]
  unfold tails
  rw [List.flatMap_append, List.flatMap_cons]
  rfl
theorem tails_more {ts : List Tm} {i : Nat} {t : Tm} (h : ts[i]? = some t) : tails (ts.take (i + 1)) = tails (ts.take i) ++ (32 :: tl t.txt) := by
  rw [take_more h]
  unfold tails
  rw [List.flatMap_append]
  show _ ++ ((32 :: tl t.txt) ++ []) = _
  rw [List.append_nil]
theorem cut_one {z : Str} {a b : List Nat} {c : Nat} (h : tl z = a ++ (c :: b)) : cutS z (some (a.length : Int)) (some ((a.length : Int) + 1)) = ⟨#[c]⟩ := cut_mid (x := ⟨#[c]⟩) h
theorem cut_first {z : Str} {b : List Nat} {c : Nat} (h : tl z = c :: b) : cutS z none (some 1) = ⟨#[c]⟩ := by
  have e : cutS z (some ((0 : Nat) : Int)) (some 1) = ⟨#[c]⟩ := cut_one (a := []) h
  have e2 : cutS z none (some 1) = cutS z (some ((0 : Nat) : Int)) (some 1) := by
    unfold cutS
    rw [HT.sIx_none, HT.sIx_nat, Nat.zero_min]
  rw [e2, e]
theorem cut_rest {z x : Str} {c : Nat} (h : tl z = c :: tl x) : cutS z (some 1) none = x := by
  have e : cutS z (some (([c].length : Nat) : Int)) (some (([c].length + x.length : Nat) : Int)) = x := cut_mid (a := [c]) (b := []) (by rw [h, List.append_nil]; rfl)
  have e2 : cutS z (some 1) none = cutS z (some (([c].length : Nat) : Int)) (some (([c].length + x.length : Nat) : Int)) := by
    have hz : z.length = 1 + x.length := by rw [len_tl, h, List.length_cons, ← len_tl]; omega
    have e1 : HT.sIx z.length z.length (some (([c].length + x.length : Nat) : Int)) = z.length := by
      rw [HT.sIx_nat]
      show min (1 + x.length) z.length = z.length
      omega
    unfold cutS
    rw [HT.sIx_none, e1]
    rfl
  rw [e2, e]
theorem letter_stops {k : Nat} (h : k ≤ 3) : ∀ c ∈ tl (letter k), c ∉ stops := by
  match k, h with
  | 0, _ => decide +kernel
  | 1, _ => decide +kernel
  | 2, _ => decide +kernel
  | 3, _ => decide +kernel
  | n + 4, h => omega
theorem num_stops (n : Nat) : ∀ c ∈ TL.numL n, c ∉ stops := fun c hc => by
  have := TL.numL_digits n c hc
  unfold stops
  simp only [List.mem_cons, List.not_mem_nil, or_false]
  omega
theorem mk_stops {m : Str} (h : isMk m) : ∀ c ∈ tl m, c ∉ stops := fun c hc => by
  have := h.2 c hc
  unfold stops
  simp only [List.mem_cons, List.not_mem_nil, or_false]
  omega
theorem hd_stops {M n : Nat} {h : Hd} (k : h.ok M n) : ∀ c ∈ tl h.S, c ∉ stops := by
  cases h with
  | op o => cases o <;> decide +kernel
  | call m =>
    show ∀ c ∈ tl (("#" : Str) ++ m), c ∉ stops
    rw [tl_append]
    intro c hc
    rcases List.mem_append.mp hc with hc | hc
    · exact (by decide +kernel : ∀ c ∈ tl ("#" : Str), c ∉ stops) c hc
    · exact mk_stops k.1 c hc
  | ring p =>
    show ∀ c ∈ tl (("@" : Str) ++ nt p), c ∉ stops
    rw [tl_append, tl_nt]
    intro c hc
    rcases List.mem_append.mp hc with hc | hc
    · exact (by decide +kernel : ∀ c ∈ tl ("@" : Str), c ∉ stops) c hc
    · exact num_stops p c hc
/-- a number or an argument: no bracket, just this leaf -/
theorem leaf_stops {M : Nat} {t : Tm} (h : t.Ok M) (hn : t.parts = []) (hh : ∀ h ts, t ≠ .node h ts) : (∀ c ∈ tl t.txt, c ∉ stops) ∧ tl t.txt ≠ [] := by
  cases h with
  | @num n hn' =>
    show (∀ c ∈ tl (nt n), c ∉ stops) ∧ tl (nt n) ≠ []
    rw [tl_nt]
    exact ⟨num_stops n, TL.numL_ne n⟩
  | arg hk =>
    rename_i k
    refine ⟨letter_stops hk, fun e => ?_⟩
    have l := letter_len hk
    rw [len_tl] at l
    have e' : tl (letter k) = [] := e
    rw [e'] at l
    cases l
  | node _ _ => exact absurd rfl (hh _ _)
theorem lix_letter {k : Nat} (h : k ≤ 3) : lix (letter k) = some k := by
  match k, h with
  | 0, _ => decide +kernel
  | 1, _ => decide +kernel
  | 2, _ => decide +kernel
  | 3, _ => decide +kernel
  | n + 4, h => omega
theorem lix_nt (n : Nat) : lix (nt n) = none := by
  have no : ∀ s : Str, (∃ c ∈ tl s, 57 < c) → nt n ≠ s := fun s ⟨c, h1, h2⟩ e => by
    have h3 := congrArg tl e
    rw [tl_nt] at h3
    have := TL.numL_digits n c (by
      show c ∈ dig n
      rw [h3]
      exact h1)
    omega
  unfold lix
  rw [if_neg (no "a" (by decide +kernel)), if_neg (no "b" (by decide +kernel)), if_neg (no "c" (by decide +kernel)), if_neg (no "d" (by decide +kernel))]
/-- the leaf that it writes -/
theorem leaf_at {M : Nat} {t : Tm} {H : Hp} {p : Addr} (h : t.Ok M) (hh : ∀ h ts, t ≠ .node h ts) (hp : H p = some (.tup (leafL t.txt))) : TmAt H (.ref p) t := by
  cases h with
  | num hn =>
    rename_i n
    have e : leafL (Tm.num n).txt = [.str "num", .int (n : Int)] := by
      show leafL (nt n) = _
      unfold leafL
      rw [lix_nt, numV_nt hn]
    rw [e] at hp
    exact .num hp
  | arg hk =>
    rename_i k
    have e : leafL (Tm.arg k).txt = [.str "arg", .int (k : Int)] := by
      show leafL (letter k) = _
      unfold leafL
      rw [lix_letter hk]
    rw [e] at hp
    exact .arg hp
  | node _ _ => exact absurd rfl (hh _ _)
end V


set_option Elab.async false
set_option linter.all false
set_option maxRecDepth 100000
set_option maxHeartbeats 4000000
namespace V
open PySem PySem.Spec PyProof.Rows L2 Evl TL NumText
def spTermAt (n : Nat) : Sp := fun vs H Q _ => ∃ (z : Str) (a b : List Nat) (t : Tm) (d M : Nat), vs = [.str z, .int (a.length : Int), .int (d : Int)] ∧ z.length ≤ 1000000 ∧ tl z = a ++ (tl t.txt ++ b) ∧
  (∀ c, b.head? = some c → c ∈ stops) ∧ t.Ok M ∧ M ≤ 1000000 ∧ t.deep ≤ d ∧ d ≤ n ∧
  ∀ (H' : Hp) (p : Addr) (v : V), Ex H H' → H' p = some (.tup [v, .int ((a.length + t.txt.length : Nat) : Int)]) → TmAt H' v t → Q (.ref p) H'
def spBracketAt (n : Nat) : Sp := fun vs H Q _ => ∃ (z : Str) (a b : List Nat) (h : Hd) (ts : List Tm) (d M : Nat), vs = [.str z, .int (a.length : Int), .int (d : Int)] ∧ z.length ≤ 1000000 ∧ tl z = a ++ (tl (Tm.node h ts).txt ++ b) ∧
  (Tm.node h ts).Ok M ∧ M ≤ 1000000 ∧ (Tm.node h ts).deep ≤ d ∧ d ≤ n ∧
  ∀ (H' : Hp) (p : Addr) (v : V), Ex H H' → H' p = some (.tup [v, .int ((a.length + (Tm.node h ts).txt.length : Nat) : Int)]) → TmAt H' v (.node h ts) → Q (.ref p) H'
theorem eq_sign {c : Nat} {s : Str} {d : Nat} (h : s = ⟨#[d]⟩) : decide (V.str ⟨#[c]⟩ = V.str s) = decide (c = d) := by
  subst h
  rw [eq_word, decide_eq_decide]
  refine ⟨fun e => ?_, fun e => by rw [e]⟩
  have := congrArg tl e
  exact (List.cons.inj this).1
section
variable {P : Program} {w : World} {K : PySem.W.Frag} {mg : Str → Option Value} {base : Heap}
def spTermIn (K : PySem.W.Frag) : Sp := fun vs H Q _ => ∃ (t : Tm) (M : Nat), vs = [.str t.txt] ∧ t.txt.length ≤ 1000000 ∧ t.Ok M ∧ M ≤ 11 ∧ t.deep ≤ 8 ∧ ∀ (H' : Hp) (v : V), Ex H H' → TmAt H' v t → Q v H'
end
end V


set_option Elab.async false
set_option linter.all false
set_option maxRecDepth 100000
set_option maxHeartbeats 4000000
namespace V
open PySem PySem.Spec PyProof.Rows L2 Evl TL NumText
/-! ### terms as data -/
mutual
def Tm.py : Tm → PyData
  | .num n => .tuple [.str "num", .int (n : Int)]
  | .arg k => .tuple [.str "arg", .int (k : Int)]
  | .node h ts => match h with
    | .op o => .tuple (.str o.str :: Tm.pys ts)
    | .call m => .tuple [.str "call", .str m, .tuple (Tm.pys ts)]
    | .ring p => .tuple [.str "ring", .int (p : Int), .tuple (Tm.pys ts)]
def Tm.pys : List Tm → List PyData
  | [] => []
  | t :: ts => t.py :: Tm.pys ts
end
theorem pys_map (ts : List Tm) : Tm.pys ts = ts.map Tm.py := by
  induction ts with
  | nil => rfl
  | cons t ts ih =>
    show t.py :: Tm.pys ts = t.py :: ts.map Tm.py
    rw [ih]
section
variable {K : PySem.W.Frag} {H : Hp}
mutual
theorem TmAt.dp : ∀ {v : V} {t : Tm}, TmAt H v t → Dp K H v t.py
  | _, _, .num h => .tup (SqT.of h) (.cons (.str _) (.cons (.int _) .nil))
  | _, _, .arg h => .tup (SqT.of h) (.cons (.str _) (.cons (.int _) .nil))
  | _, _, .op h hs => .tup (SqT.of h) (.cons (.str _) hs.dp)
  | _, _, .call h hp hs => .tup (SqT.of h) (.cons (.str _) (.cons (.str _) (.cons (.tup (SqT.of hp) hs.dp) .nil)))
  | _, _, .ring h hp hs => .tup (SqT.of h) (.cons (.str _) (.cons (.int _) (.cons (.tup (SqT.of hp) hs.dp) .nil)))
theorem TmsAt.dp : ∀ {vs : List V} {ts : List Tm}, TmsAt H vs ts → DpAll K H vs (Tm.pys ts)
  | _, _, .nil => .nil
  | _, _, .cons h hs => .cons h.dp hs.dp
end
end
theorem mk_in {m : Str} (h : isMk m) : isMarkD (.str m) = true := by
  show (m.length == 6 && m.cps.toList.all fun c => decide (c ∈ sgM.cps.toList)) = true
  rw [h.1]
  show (m.cps.toList.all fun c => decide (c ∈ sgM.cps.toList)) = true
  rw [List.all_eq_true]
  intro c hc
  have r := h.2 c hc
  have all : ∀ c : Nat, c < 123 → ((48 ≤ c ∧ c ≤ 57) ∨ (97 ≤ c ∧ c ≤ 122)) → c ∈ sgM.cps.toList := by decide +kernel
  exact decide_eq_true (all c (by omega) r)
theorem headD_eq (z : Str) (r : List PyData) : headD (.tuple (.str z :: r)) = if z ∈ opWords then decide (r.length = arOf z) else if z = "num" then one1 (isNumD 1000002) r else if z = "arg" then one1 (isNumD 3) r
    else if z = "call" then two2 isMarkD isPartsD r else if z = "ring" then two2 (isNumD 11) isPartsD r else false := rfl
theorem headD_num (r : List PyData) : headD (.tuple (.str "num" :: r)) = one1 (isNumD 1000002) r := by
  rw [headD_eq, if_neg (by decide +kernel), if_pos rfl]
theorem headD_arg (r : List PyData) : headD (.tuple (.str "arg" :: r)) = one1 (isNumD 3) r := by
  rw [headD_eq, if_neg (by decide +kernel), if_neg (by decide +kernel), if_pos rfl]
theorem headD_call (r : List PyData) : headD (.tuple (.str "call" :: r)) = two2 isMarkD isPartsD r := by
  rw [headD_eq, if_neg (by decide +kernel), if_neg (by decide +kernel), if_neg (by decide +kernel), if_pos rfl]
theorem headD_ring (r : List PyData) : headD (.tuple (.str "ring" :: r)) = two2 (isNumD 11) isPartsD r := by
  rw [headD_eq, if_neg (by decide +kernel), if_neg (by decide +kernel), if_neg (by decide +kernel), if_neg (by decide +kernel), if_pos rfl]
theorem Hd.ok.up {M M' n : Nat} (h : M ≤ M') {hd : Hd} (k : hd.ok M n) : hd.ok M' n := by
  cases hd with
  | op o => exact k
  | call m => exact k
  | ring p => exact ⟨Nat.le_trans k.1 h, k.2⟩
theorem Tm.Ok.up {M M' : Nat} (h : M ≤ M') : ∀ {t : Tm}, t.Ok M → t.Ok M'
  | _, .num k => .num k
  | _, .arg k => .arg k
  | _, .node k ks => .node (k.up h) fun t ht => (ks t ht).up h
theorem headD_op {z : Str} (h : z ∈ opWords) (r : List PyData) : headD (.tuple (.str z :: r)) = decide (r.length = arOf z) := if_pos h
theorem partsD_op {z : Str} (h : z ∈ opWords) (r : List PyData) : partsD (.tuple (.str z :: r)) = r := if_pos h
theorem partsD_no {z : Str} (h : z ∉ opWords) (r : List PyData) : partsD (.tuple (.str z :: r)) = second r := if_neg h
theorem py_isTm : ∀ (n : Nat) (t : Tm), t.Ok 11 → t.deep ≤ n → isTm n t.py = true
  | 0, t, _, h => by
    have := deep_pos t
    omega
  | n + 1, t, k, h => by
    cases k with
    | @num m hm =>
      show (headD (.tuple [.str "num", .int (m : Int)]) && (partsD (.tuple [.str "num", .int (m : Int)])).all (isTm n)) = true
      have e1 : headD (.tuple [.str "num", .int (m : Int)]) = (decide (0 ≤ (m : Int)) && decide ((m : Int) ≤ 1000002)) := by
        exact headD_num _
      have e2 : partsD (.tuple [.str "num", .int (m : Int)]) = [] := by
        exact partsD_no (by decide +kernel) _
      rw [e1, e2, decide_eq_true (by omega), decide_eq_true (by omega)]
      rfl
    | @arg m hm =>
      show (headD (.tuple [.str "arg", .int (m : Int)]) && (partsD (.tuple [.str "arg", .int (m : Int)])).all (isTm n)) = true
      have e1 : headD (.tuple [.str "arg", .int (m : Int)]) = (decide (0 ≤ (m : Int)) && decide ((m : Int) ≤ 3)) := by
        exact headD_arg _
      have e2 : partsD (.tuple [.str "arg", .int (m : Int)]) = [] := by
        exact partsD_no (by decide +kernel) _
      rw [e1, e2, decide_eq_true (by omega), decide_eq_true (by omega)]
      rfl
    | @node hd ts hok hks =>
      have hdl : ∀ u ∈ ts, u.deep ≤ n := fun u hu => by
        have : u.deep + 1 ≤ (Tm.node hd ts).deep := parts_deep (t := .node hd ts) hu
        omega
      have rest : (Tm.pys ts).all (isTm n) = true := by
        rw [pys_map, List.all_map, List.all_eq_true]
        exact fun u hu => py_isTm n u (hks u hu) (hdl u hu)
      have len : (Tm.pys ts).length = ts.length := by rw [pys_map, List.length_map]
      show (headD (Tm.node hd ts).py && (partsD (Tm.node hd ts).py).all (isTm n)) = true
      cases hd with
      | op o =>
        have io : o.str ∈ opWords := by cases o <;> decide +kernel
        have e1 : headD (Tm.node (.op o) ts).py = true := by
          refine (headD_op io _).trans ?_
          rw [len]
          refine decide_eq_true ?_
          have : ts.length = o.ar := hok
          rw [this]
          cases o <;> decide +kernel
        have e2 : partsD (Tm.node (.op o) ts).py = Tm.pys ts := partsD_op io _
        rw [e1, e2, rest]
        rfl
      | call m =>
        have e1 : headD (Tm.node (.call m) ts).py = true := by
          refine (headD_call _).trans ?_
          show (isMarkD (.str m) && decide ((Tm.pys ts).length ≤ 4)) = true
          rw [mk_in hok.1, len, decide_eq_true hok.2]
          rfl
        have e2 : partsD (Tm.node (.call m) ts).py = Tm.pys ts := partsD_no (by decide +kernel) _
        rw [e1, e2, rest]
        rfl
      | ring p =>
        have e1 : headD (Tm.node (.ring p) ts).py = true := by
          refine (headD_ring _).trans ?_
          show ((decide (0 ≤ (p : Int)) && decide ((p : Int) ≤ 11)) && decide ((Tm.pys ts).length ≤ 4)) = true
          have hp : p ≤ 11 := hok.1
          rw [decide_eq_true (by omega), decide_eq_true (by omega), len, decide_eq_true hok.2]
          rfl
        have e2 : partsD (Tm.node (.ring p) ts).py = Tm.pys ts := partsD_no (by decide +kernel) _
        rw [e1, e2, rest]
        rfl
theorem py_small : ∀ {M : Nat} (t : Tm), t.Ok M → Small t.py
  | M, t, k => by
    have w : ∀ x : Str, x.length ≤ 5 → Small (.str x) := fun x h => .str (by omega)
    have two : ∀ {a b : PyData}, Small a → Small b → Small (.tuple [a, b]) := fun ha hb => .tup (by show 2 ≤ 1000; omega) fun d hd => by
      rcases List.mem_cons.mp hd with rfl | hd
      · exact ha
      · rw [List.mem_singleton.mp hd]
        exact hb
    have three : ∀ {a b c : PyData}, Small a → Small b → Small c → Small (.tuple [a, b, c]) := fun ha hb hc => .tup (by show 3 ≤ 1000; omega) fun d hd => by
      rcases List.mem_cons.mp hd with rfl | hd
      · exact ha
      rcases List.mem_cons.mp hd with rfl | hd
      · exact hb
      · rw [List.mem_singleton.mp hd]
        exact hc
    cases k with
    | num _ => exact two (w _ (by decide +kernel)) (.int _)
    | arg _ => exact two (w _ (by decide +kernel)) (.int _)
    | @node hd ts hok hks =>
      have le := hok.le
      have rest : ∀ d ∈ Tm.pys ts, Small d := fun d hd => by
        rw [pys_map] at hd
        obtain ⟨u, hu, rfl⟩ := List.mem_map.mp hd
        exact py_small u (hks u hu)
      have len : (Tm.pys ts).length = ts.length := by rw [pys_map, List.length_map]
      have pt : Small (.tuple (Tm.pys ts)) := .tup (by omega) rest
      cases hd with
      | op o =>
        refine .tup (by rw [List.length_cons]; omega) fun d hd => ?_
        rcases List.mem_cons.mp hd with rfl | hd
        · exact w _ (by cases o <;> decide +kernel)
        · exact rest d hd
      | call m => exact three (w _ (by decide +kernel)) (.str (by rw [hok.1.1]; decide)) pt
      | ring p => exact three (w _ (by decide +kernel)) (.int _) pt
end V


set_option Elab.async false
set_option linter.all false
set_option maxRecDepth 100000
set_option maxHeartbeats 4000000
namespace V
open PySem PySem.Spec PyProof.Rows L2 Evl TL NumText
/-! ### alike, kind by kind -/
inductive DepN : Nat → PyData → Prop where
  | int {n : Nat} (i : Int) : DepN (n + 1) (.int i)
  | str {n : Nat} (x : Str) : DepN (n + 1) (.str x)
  | lst {n : Nat} {ds : List PyData} : ds.length ≤ 1000 → (∀ d ∈ ds, DepN n d) → DepN (n + 1) (.list ds)
  | tup {n : Nat} {ds : List PyData} : ds.length ≤ 1000 → (∀ d ∈ ds, DepN n d) → DepN (n + 1) (.tuple ds)
theorem DepN.up : ∀ {n m : Nat} {d : PyData}, DepN n d → n ≤ m → DepN m d
  | n + 1, m + 1, _, .int i, h => .int i
  | n + 1, m + 1, _, .str i, h => .str i
  | n + 1, m + 1, _, .lst l k, h => .lst l fun d hd => (k d hd).up (Nat.le_of_succ_le_succ h)
  | n + 1, m + 1, _, .tup l k, h => .tup l fun d hd => (k d hd).up (Nat.le_of_succ_le_succ h)
def isLstD : PyData → Bool
  | .list _ => true
  | _ => false
theorem kit_lst : ∀ d : PyData, kitB (kind d) "list" = some (isLstD d)
  | .none => (by decide +kernel : kitB "NoneType" "list" = some false)
  | .bool _ => (by decide +kernel : kitB "bool" "list" = some false)
  | .int _ => (by decide +kernel : kitB "int" "list" = some false)
  | .str _ => (by decide +kernel : kitB "str" "list" = some false)
  | .list _ => (by decide +kernel : kitB "list" "list" = some true)
  | .tuple _ => (by decide +kernel : kitB "tuple" "list" = some false)
  | .dict _ => (by decide +kernel : kitB "dict" "list" = some false)
theorem kit_two (K : PySem.W.Frag) (d : PyData) : PySem.W.kitAny K (.type (kind d)) [.type "list", .type "tuple"] = some (isLstD d || isTupD d) := by
  refine kitAny_cons (kit_ty (kit_lst d)) (fun h => ?_) (fun h => by rw [h]; rfl)
  rw [h]
  refine kitAny_cons (kit_ty (kit_tup d)) (fun h => ?_) (fun h => by rw [h]; rfl)
  rw [h]
  rfl
theorem walk_zip2 {K : PySem.W.Frag} {a b : Addr} {us ws : List V} (hl : us.length = ws.length) : Walk (RZ.ItzT K a b) us.length (fun H => SqT K H a us ∧ SqT K H b ws) (YPair (fun i => us[i]?) (fun i => ws[i]?)) := by
  refine ⟨fun i _ hi g => ?_, fun _ g => ⟨us, ws, g.1, g.2, .inl (Nat.le_refl _)⟩, fun i H v H' _ g e => ?_⟩
  · exact ⟨us, ws, us[i], ws[i]'(by omega), g.1, g.2, List.getElem?_eq_getElem hi, List.getElem?_eq_getElem (by omega)⟩
  · obtain ⟨t, u, c, k1, k2, k3, k4, k5⟩ := e
    exact ⟨t, u, c, k1, k2, k3, k4 us g.1, k5 ws g.2⟩
def spSame (K : PySem.W.Frag) (n : Nat) : Sp := fun vs H Q _ => ∃ (v w : V) (d : PyData), vs = [v, w] ∧ Dp K H v d ∧ Dp K H w d ∧ DepN n d ∧ ∀ (H' : Hp), Ex H H' → Q (.bl true) H'
end V


set_option Elab.async false
set_option linter.all false
set_option maxRecDepth 100000
set_option maxHeartbeats 400000
namespace V
open PySem PySem.Spec PyProof.Rows L2 Evl TL NumText
theorem pys_dep {n : Nat} (ts : List Tm) (h : ∀ t ∈ ts, DepN n t.py) : ∀ d ∈ Tm.pys ts, DepN n d := fun d hd => by
  rw [pys_map] at hd
  obtain ⟨t, ht, rfl⟩ := List.mem_map.mp hd
  exact h t ht
theorem py_dep : ∀ (n M : Nat) (t : Tm), t.Ok M → t.deep ≤ n → DepN (2 * n) t.py
  | 0, _, t, _, h => by
    have := deep_pos t
    omega
  | n + 1, M, t, k, h => by
    have flat2 : ∀ {a b : PyData}, DepN (2 * n + 1) a → DepN (2 * n + 1) b → DepN (2 * (n + 1)) (.tuple [a, b]) := fun ha hb => .tup (by show 2 ≤ 1000; omega) fun d hd => by
      rcases List.mem_cons.mp hd with rfl | hd
      · exact ha
      · rw [List.mem_singleton.mp hd]
        exact hb
    have flat3 : ∀ {a b c : PyData}, DepN (2 * n + 1) a → DepN (2 * n + 1) b → DepN (2 * n + 1) c → DepN (2 * (n + 1)) (.tuple [a, b, c]) := fun ha hb hc => .tup (by show 3 ≤ 1000; omega) fun d hd => by
      rcases List.mem_cons.mp hd with rfl | hd
      · exact ha
      rcases List.mem_cons.mp hd with rfl | hd
      · exact hb
      · rw [List.mem_singleton.mp hd]
        exact hc
    cases k with
    | num _ => exact flat2 (.str _) (.int _)
    | arg _ => exact flat2 (.str _) (.int _)
    | @node hd ts hok hks =>
      have le := hok.le
      have each : ∀ u ∈ ts, DepN (2 * n) u.py := fun u hu => by
        have : u.deep + 1 ≤ (Tm.node hd ts).deep := parts_deep (t := .node hd ts) hu
        exact py_dep n M u (hks u hu) (by omega)
      have len : (Tm.pys ts).length = ts.length := by rw [pys_map, List.length_map]
      have pt : DepN (2 * n + 1) (.tuple (Tm.pys ts)) := .tup (by omega) (pys_dep ts each)
      cases hd with
      | op o =>
        refine .tup (by rw [List.length_cons]; omega) fun d hd => ?_
        rcases List.mem_cons.mp hd with rfl | hd
        · exact .str _
        · exact (pys_dep ts each d hd).up (Nat.le_succ (2 * n))
      | call m => exact flat3 (.str _) (.str _) pt
      | ring p => exact flat3 (.str _) (.int _) pt
theorem places_len (t : Tm) : t.places.length ≤ t.size := by
  rw [← all_len t]
  unfold Tm.places
  have h : ∀ l : List Tm, (l.flatMap Tm.pl1).length ≤ l.length := by
    intro l
    induction l with
    | nil => exact Nat.le_refl _
    | cons t r ih =>
      rw [List.flatMap_cons, List.length_append, List.length_cons]
      have : (Tm.pl1 t).length ≤ 1 := by
        unfold Tm.pl1
        split
        · exact Nat.le_refl 1
        · exact Nat.zero_le 1
      omega
  exact h _
section
variable {K : PySem.W.Frag} {H : Hp}
theorem dps_strs : ∀ xs : List Str, DpAll K H (xs.map V.str) (xs.map PyData.str)
  | [] => .nil
  | x :: xs => .cons (.str x) (dps_strs xs)
theorem dps_nats : ∀ xs : List Nat, DpAll K H (xs.map fun k : Nat => V.int (k : Int)) (xs.map fun k : Nat => PyData.int (k : Int))
  | [] => .nil
  | x :: xs => .cons (.int _) (dps_nats xs)
end
theorem mks_len (t : Tm) : t.marks.length ≤ t.size := by
  rw [← all_len t]
  unfold Tm.marks
  have h : ∀ l : List Tm, (l.flatMap Tm.mk1).length ≤ l.length := by
    intro l
    induction l with
    | nil => exact Nat.le_refl _
    | cons t r ih =>
      rw [List.flatMap_cons, List.length_append, List.length_cons]
      have : (Tm.mk1 t).length ≤ 1 := by
        unfold Tm.mk1
        split
        · exact Nat.le_refl 1
        · exact Nat.zero_le 1
      omega
  exact h _
/-- a rising list of what stands in another one is no longer -/
theorem rise_len : ∀ (xs l : List Str), xs.Pairwise tlt → (∀ x ∈ xs, x ∈ l) → xs.length ≤ l.length
  | [], l, _, _ => Nat.zero_le _
  | x :: xs, l, h, s => by
    obtain ⟨h1, h2⟩ := List.pairwise_cons.mp h
    have hx := s x (List.mem_cons_self ..)
    have ih := rise_len xs (l.erase x) h2 fun y hy => (List.mem_erase_of_ne (fun e => tlt_irr x (by
      have := h1 y hy
      rw [e] at this
      exact this))).mpr (s y (List.mem_cons_of_mem _ hy))
    have e := List.length_erase_of_mem hx
    have pos : 0 < l.length := List.length_pos_of_mem hx
    rw [List.length_cons]
    omega
/-- the marks, the places of a head -/
def Hd.ms : Hd → List Str
  | .call m => [m]
  | _ => []
def Hd.ps : Hd → List Nat
  | .ring p => [p]
  | _ => []
theorem alls_flat (ts : List Tm) : Tm.alls ts = ts.flatMap Tm.all := by
  induction ts with
  | nil => rfl
  | cons t ts ih =>
    show t.all ++ Tm.alls ts = _
    rw [ih]
    rfl
theorem marks_node (h : Hd) (ts : List Tm) : (Tm.node h ts).marks = h.ms ++ ts.flatMap Tm.marks := by
  have e : (Tm.node h ts).marks = Tm.mk1 (.node h ts) ++ (Tm.alls ts).flatMap Tm.mk1 := by
    unfold Tm.marks
    rw [all_parts, List.flatMap_cons]
    rfl
  rw [e, alls_flat, List.flatMap_assoc]
  cases h <;> rfl
theorem places_node (h : Hd) (ts : List Tm) : (Tm.node h ts).places = h.ps ++ ts.flatMap Tm.places := by
  have e : (Tm.node h ts).places = Tm.pl1 (.node h ts) ++ (Tm.alls ts).flatMap Tm.pl1 := by
    unfold Tm.places
    rw [all_parts, List.flatMap_cons]
    rfl
  rw [e, alls_flat, List.flatMap_assoc]
  cases h <;> rfl
end V


set_option Elab.async false
set_option linter.all false
set_option maxRecDepth 100000
set_option maxHeartbeats 400000
namespace V
open PySem PySem.Spec PyProof.Rows L2 Evl TL NumText
/-! ### unlike terms have unlike texts -/
def Stp (a : List Nat) : Prop := ∀ c, a.head? = some c → c ∈ stops
theorem split_word : ∀ {x y a b : List Nat}, (∀ c ∈ x, c ∉ stops) → (∀ c ∈ y, c ∉ stops) → Stp a → Stp b → x ++ a = y ++ b → x = y ∧ a = b
  | [], [], a, b, _, _, _, _, e => ⟨rfl, e⟩
  | [], d :: y, a, b, _, hy, ha, _, e => absurd (ha d (by
      have e2 : a = d :: (y ++ b) := e
      rw [e2]
      rfl)) (hy d (List.mem_cons_self ..))
  | c :: x, [], a, b, hx, _, _, hb, e => absurd (hb c (by
      have e2 : c :: (x ++ a) = b := e
      rw [← e2]
      rfl)) (hx c (List.mem_cons_self ..))
  | c :: x, d :: y, a, b, hx, hy, ha, hb, e => by
    have e2 : c :: (x ++ a) = d :: (y ++ b) := e
    obtain ⟨e3, e4⟩ := List.cons.inj e2
    obtain ⟨e5, e6⟩ := split_word (fun z hz => hx z (List.mem_cons_of_mem _ hz)) (fun z hz => hy z (List.mem_cons_of_mem _ hz)) ha hb e4
    exact ⟨by rw [e3, e5], e6⟩
theorem dig_rng {n : Nat} : ∀ c ∈ tl (nt n), 48 ≤ c ∧ c ≤ 57 := fun c hc => by
  rw [tl_nt] at hc
  exact TL.numL_digits n c hc
theorem nt_stops {n : Nat} : ∀ c ∈ tl (nt n), c ∉ stops := fun c hc => by
  have := dig_rng c hc
  unfold stops
  simp only [List.mem_cons, List.not_mem_nil, or_false]
  omega
theorem nt_inj {n m : Nat} (hn : n ≤ 1000002) (hm : m ≤ 1000002) (e : tl (nt n) = tl (nt m)) : n = m := by
  have e1 : numV (nt n) = numV (nt m) := by rw [ext_tl e]
  rw [numV_nt hn, numV_nt hm] at e1
  have := V.int.inj e1
  omega
theorem nt_head (n : Nat) : ∃ c l, tl (nt n) = c :: l ∧ 48 ≤ c ∧ c ≤ 57 := by
  cases e : tl (nt n) with
  | nil =>
    rw [tl_nt] at e
    exact absurd e (dig_ne n)
  | cons c l => exact ⟨c, l, rfl, dig_rng c (by rw [e]; exact List.mem_cons_self ..)⟩
theorem letter_head {k : Nat} (h : k ≤ 3) : tl (letter k) = [97 + k] := by
  match k, h with
  | 0, _ => decide +kernel
  | 1, _ => decide +kernel
  | 2, _ => decide +kernel
  | 3, _ => decide +kernel
  | n + 4, h => omega
theorem letter_st {k : Nat} (h : k ≤ 3) : ∀ c ∈ tl (letter k), c ∉ stops := fun c hc => by
  rw [letter_head h] at hc
  rw [List.mem_singleton.mp hc]
  unfold stops
  simp only [List.mem_cons, List.not_mem_nil, or_false]
  omega
theorem op_head (o : Op) : ∃ c l, tl o.str = c :: l ∧ 97 ≤ c := by
  cases o <;> exact ⟨_, _, by rfl, by decide⟩
theorem op_inj {o p : Op} (e : tl o.str = tl p.str) : o = p := by
  cases o <;> cases p <;> first | rfl | (exact absurd e (by decide +kernel))
theorem hd_st {M n : Nat} {h : Hd} (k : h.ok M n) : ∀ c ∈ tl h.S, c ∉ stops := fun c hc => by
  cases h with
  | op o =>
    have all : ∀ o : Op, ∀ c ∈ tl o.str, c ∉ stops := by intro o; cases o <;> decide +kernel
    exact all o c hc
  | call m =>
    have e : tl (Hd.call m).S = 35 :: tl m := by
      show tl (("#" : Str) ++ m) = _
      rw [tl_append]
      rfl
    rw [e] at hc
    rcases List.mem_cons.mp hc with rfl | hc
    · decide
    · have := k.1.2 c hc
      unfold stops
      simp only [List.mem_cons, List.not_mem_nil, or_false]
      omega
  | ring p =>
    have e : tl (Hd.ring p).S = 64 :: tl (nt p) := by
      show tl (("@" : Str) ++ nt p) = _
      rw [tl_append]
      rfl
    rw [e] at hc
    rcases List.mem_cons.mp hc with rfl | hc
    · decide
    · exact nt_stops c hc
theorem hd_inj {M n m : Nat} (hM : M ≤ 1000002) {h g : Hd} (k : h.ok M n) (j : g.ok M m) (e : tl h.S = tl g.S) : h = g := by
  have ec : ∀ m : Str, tl (Hd.call m).S = 35 :: tl m := fun m => by
    show tl (("#" : Str) ++ m) = _
    rw [tl_append]
    rfl
  have er : ∀ p : Nat, tl (Hd.ring p).S = 64 :: tl (nt p) := fun p => by
    show tl (("@" : Str) ++ nt p) = _
    rw [tl_append]
    rfl
  have eo : ∀ o : Op, tl (Hd.op o).S = tl o.str := fun _ => rfl
  cases h with
  | op o =>
    obtain ⟨c, l, e1, e2⟩ := op_head o
    cases g with
    | op p =>
      rw [eo, eo] at e
      rw [op_inj e]
    | call m =>
      rw [eo, ec, e1] at e
      have := (List.cons.inj e).1
      omega
    | ring p =>
      rw [eo, er, e1] at e
      have := (List.cons.inj e).1
      omega
  | call m =>
    cases g with
    | op p =>
      obtain ⟨c, l, e1, e2⟩ := op_head p
      rw [eo, ec, e1] at e
      have := (List.cons.inj e).1
      omega
    | call m' =>
      rw [ec, ec] at e
      rw [ext_tl (List.cons.inj e).2]
    | ring p =>
      rw [ec, er] at e
      have := (List.cons.inj e).1
      omega
  | ring p =>
    cases g with
    | op o =>
      obtain ⟨c, l, e1, e2⟩ := op_head o
      rw [eo, er, e1] at e
      have := (List.cons.inj e).1
      omega
    | call m =>
      rw [ec, er] at e
      have := (List.cons.inj e).1
      omega
    | ring p' =>
      rw [er, er] at e
      have h1 : p ≤ M := k.1
      have h2 : p' ≤ M := j.1
      rw [nt_inj (by omega) (by omega) (List.cons.inj e).2]
theorem stp_tails (ts : List Tm) (a : List Nat) : Stp (tails ts ++ (41 :: a)) := fun c hc => by
  cases ts with
  | nil =>
    have e : (41 : Nat) = c := Option.some.inj hc
    rw [← e]
    decide
  | cons t ts =>
    have e : (32 : Nat) = c := Option.some.inj hc
    rw [← e]
    decide
theorem txt_cut {M : Nat} (hM : M ≤ 1000002) : ∀ t : Tm, t.Ok M → ∀ (u : Tm) (a b : List Nat), u.Ok M → Stp a → Stp b → tl t.txt ++ a = tl u.txt ++ b → t = u ∧ a = b := by
  have nn : ∀ n, tl (Tm.num n).txt = tl (nt n) := fun _ => rfl
  have aa : ∀ k, tl (Tm.arg k).txt = tl (letter k) := fun _ => rfl
  refine Tm.ind (fun n k => ?_) (fun j k => ?_) fun h ts ih k => ?_
  · intro u a b ku ha hb e
    cases k with
    | num hn =>
    cases ku with
    | num hm =>
      obtain ⟨e1, e2⟩ := split_word nt_stops nt_stops ha hb e
      rw [nt_inj hn hm e1]
      exact ⟨rfl, e2⟩
    | arg hm =>
      obtain ⟨e1, e2⟩ := split_word nt_stops (letter_st hm) ha hb e
      obtain ⟨c, l, e3, e4⟩ := nt_head n
      rw [e3, letter_head hm] at e1
      have := (List.cons.inj e1).1
      omega
    | node _ _ =>
      obtain ⟨c, l, e3, e4⟩ := nt_head n
      rw [nn, e3, tl_node] at e
      have := (List.cons.inj e).1
      omega
  · intro u a b ku ha hb e
    cases k with
    | arg hj =>
    cases ku with
    | num hm =>
      obtain ⟨e1, e2⟩ := split_word (letter_st hj) nt_stops ha hb e
      rename_i n
      obtain ⟨c, l, e3, e4⟩ := nt_head n
      rw [e3, letter_head hj] at e1
      have := (List.cons.inj e1).1
      omega
    | arg hm =>
      obtain ⟨e1, e2⟩ := split_word (letter_st hj) (letter_st hm) ha hb e
      rw [letter_head hj, letter_head hm] at e1
      have e3 := (List.cons.inj e1).1
      rename_i m
      obtain rfl : j = m := by omega
      exact ⟨rfl, e2⟩
    | node _ _ =>
      rw [aa, letter_head hj, tl_node] at e
      have := (List.cons.inj e).1
      omega
  · intro u a b ku ha hb e
    cases k with
    | node hh hks =>
    cases ku with
    | num hm =>
      rename_i n
      obtain ⟨c, l, e3, e4⟩ := nt_head n
      rw [nn, e3, tl_node] at e
      have := (List.cons.inj e).1
      omega
    | arg hm =>
      rw [aa, letter_head hm, tl_node] at e
      have := (List.cons.inj e).1
      omega
    | @node g us hg hus =>
      rw [tl_node, tl_node] at e
      have e1 : (tl h.S ++ (tails ts ++ [41])) ++ a = (tl g.S ++ (tails us ++ [41])) ++ b := (List.cons.inj e).2
      rw [List.append_assoc, List.append_assoc, List.append_assoc, List.append_assoc] at e1
      obtain ⟨e2, e3⟩ := split_word (hd_st hh) (hd_st hg) (stp_tails ts a) (stp_tails us b) e1
      have eh := hd_inj hM hh hg e2
      have parts : ∀ (ts us : List Tm), (∀ t ∈ ts, t.Ok M ∧ ∀ (u : Tm) (a b : List Nat), u.Ok M → Stp a → Stp b → tl t.txt ++ a = tl u.txt ++ b → t = u ∧ a = b) → (∀ u ∈ us, u.Ok M) →
          tails ts ++ (41 :: a) = tails us ++ (41 :: b) → ts = us ∧ a = b := by
        intro ts
        induction ts with
        | nil =>
          intro us _ _ e
          cases us with
          | nil => exact ⟨rfl, (List.cons.inj e).2⟩
          | cons u us =>
            have := (List.cons.inj (show (41 : Nat) :: a = 32 :: (tl u.txt ++ tails us ++ 41 :: b) from e)).1
            omega
        | cons t ts ih2 =>
          intro us ht hu e
          cases us with
          | nil =>
            have := (List.cons.inj (show 32 :: (tl t.txt ++ tails ts ++ 41 :: a) = (41 : Nat) :: b from e)).1
            omega
          | cons u us =>
            have e4 := (List.cons.inj (show 32 :: (tl t.txt ++ tails ts ++ 41 :: a) = 32 :: (tl u.txt ++ tails us ++ 41 :: b) from e)).2
            rw [List.append_assoc, List.append_assoc] at e4
            obtain ⟨e5, e6⟩ := (ht t (List.mem_cons_self ..)).2 u _ _ (hu u (List.mem_cons_self ..)) (stp_tails ts a) (stp_tails us b) e4
            obtain ⟨e7, e8⟩ := ih2 us (fun v hv => ht v (List.mem_cons_of_mem _ hv)) (fun v hv => hu v (List.mem_cons_of_mem _ hv)) e6
            exact ⟨by rw [e5, e7], e8⟩
      obtain ⟨e9, e10⟩ := parts ts us (fun t ht => ⟨hks t ht, fun u a b => ih t ht (hks t ht) u a b⟩) hus e3
      rw [eh, e9]
      exact ⟨rfl, e10⟩
theorem txt_inj {M : Nat} (hM : M ≤ 1000002) {t u : Tm} (k : t.Ok M) (j : u.Ok M) (e : t.txt = u.txt) : t = u :=
  (txt_cut hM t k u [] [] j (fun c h => by cases h) (fun c h => by cases h) (by rw [e])).1
/-! ### terms that are alike -/
theorem eqv_str (x y : Str) : PyData.eqv (.str x) (.str y) = (x == y) := by simp only [PyData.eqv]
theorem eqv_int (x y : Int) : PyData.eqv (.int x) (.int y) = (x == y) := by simp only [PyData.eqv]
theorem eqv_tup (xs ys : List PyData) : PyData.eqv (.tuple xs) (.tuple ys) = PyData.eqvAll xs ys := by simp only [PyData.eqv]
theorem eqv_lst (xs ys : List PyData) : PyData.eqv (.list xs) (.list ys) = PyData.eqvAll xs ys := by simp only [PyData.eqv]
theorem eqvs_cons (x y : PyData) (xs ys : List PyData) : PyData.eqvAll (x :: xs) (y :: ys) = (PyData.eqv x y && PyData.eqvAll xs ys) := by simp only [PyData.eqvAll]
theorem eqvs_nil : PyData.eqvAll [] [] = true := by simp only [PyData.eqvAll]
theorem py_word : ∀ t : Tm, ∃ r, t.py = .tuple (.str t.word :: r)
  | .num n => ⟨_, rfl⟩
  | .arg n => ⟨_, rfl⟩
  | .node (.op o) ts => ⟨_, rfl⟩
  | .node (.call m) ts => ⟨_, rfl⟩
  | .node (.ring m) ts => ⟨_, rfl⟩
theorem eqv_word {t u : Tm} (e : PyData.eqv t.py u.py = true) : t.word = u.word := by
  obtain ⟨r, e1⟩ := py_word t
  obtain ⟨q, e2⟩ := py_word u
  rw [e1, e2, eqv_tup, eqvs_cons, Bool.and_eq_true, eqv_str, beq_iff_eq] at e
  exact e.1
theorem eqv_py : ∀ t u : Tm, PyData.eqv t.py u.py = true → t = u := by
  have nu : ∀ n, (Tm.num n).py = .tuple [.str "num", .int (n : Int)] := fun _ => rfl
  have ar : ∀ n, (Tm.arg n).py = .tuple [.str "arg", .int (n : Int)] := fun _ => rfl
  have op : ∀ o ts, (Tm.node (.op o) ts).py = .tuple (.str o.str :: Tm.pys ts) := fun _ _ => rfl
  have ca : ∀ m ts, (Tm.node (.call m) ts).py = .tuple [.str "call", .str m, .tuple (Tm.pys ts)] := fun _ _ => rfl
  have ri : ∀ m ts, (Tm.node (.ring m) ts).py = .tuple [.str "ring", .int (m : Int), .tuple (Tm.pys ts)] := fun _ _ => rfl
  have wd : ∀ t u : Tm, t.word = u.word → (match t, u with | .num _, .num _ => True | .arg _, .arg _ => True | .node (.op o) _, .node (.op p) _ => o = p | .node (.call _) _, .node (.call _) _ => True | .node (.ring _) _, .node (.ring _) _ => True | _, _ => False) := by
    have ow : ∀ o : Op, o.str ≠ "num" ∧ o.str ≠ "arg" ∧ o.str ≠ "call" ∧ o.str ≠ "ring" := by intro o; cases o <;> decide +kernel
    intro t u e
    cases t with
    | num n =>
      cases u with
      | num m => trivial
      | arg m => exact absurd e (by show ("num" : Str) ≠ "arg"; decide +kernel)
      | node g us =>
        cases g with
        | op p => exact absurd e.symm (ow p).1
        | call m => exact absurd e (by show ("num" : Str) ≠ "call"; decide +kernel)
        | ring m => exact absurd e (by show ("num" : Str) ≠ "ring"; decide +kernel)
    | arg n =>
      cases u with
      | arg m => trivial
      | num m => exact absurd e (by show ("arg" : Str) ≠ "num"; decide +kernel)
      | node g us =>
        cases g with
        | op p => exact absurd e.symm (ow p).2.1
        | call m => exact absurd e (by show ("arg" : Str) ≠ "call"; decide +kernel)
        | ring m => exact absurd e (by show ("arg" : Str) ≠ "ring"; decide +kernel)
    | node h ts =>
      cases h with
      | op o =>
        cases u with
        | num m => exact absurd e (ow o).1
        | arg m => exact absurd e (ow o).2.1
        | node g us =>
          cases g with
          | op p => exact op_inj (congrArg tl (show o.str = p.str from e))
          | call m => exact absurd e (ow o).2.2.1
          | ring m => exact absurd e (ow o).2.2.2
      | call m =>
        cases u with
        | num m => exact absurd e (by show ("call" : Str) ≠ "num"; decide +kernel)
        | arg m => exact absurd e (by show ("call" : Str) ≠ "arg"; decide +kernel)
        | node g us =>
          cases g with
          | op p => exact absurd e.symm (ow p).2.2.1
          | call m => trivial
          | ring m => exact absurd e (by show ("call" : Str) ≠ "ring"; decide +kernel)
      | ring m =>
        cases u with
        | num m => exact absurd e (by show ("ring" : Str) ≠ "num"; decide +kernel)
        | arg m => exact absurd e (by show ("ring" : Str) ≠ "arg"; decide +kernel)
        | node g us =>
          cases g with
          | op p => exact absurd e.symm (ow p).2.2.2
          | call m => exact absurd e (by show ("ring" : Str) ≠ "call"; decide +kernel)
          | ring m => trivial
  have all : ∀ (ts us : List Tm), (∀ t ∈ ts, ∀ u : Tm, PyData.eqv t.py u.py = true → t = u) → PyData.eqvAll (Tm.pys ts) (Tm.pys us) = true → ts = us := by
    intro ts
    induction ts with
    | nil =>
      intro us _ e
      cases us with
      | nil => rfl
      | cons u us => exact absurd e (by show PyData.eqvAll [] (u.py :: Tm.pys us) ≠ true; simp [PyData.eqvAll])
    | cons t ts ih =>
      intro us h e
      cases us with
      | nil => exact absurd e (by show PyData.eqvAll (t.py :: Tm.pys ts) [] ≠ true; simp [PyData.eqvAll])
      | cons u us =>
        have e1 : PyData.eqvAll (t.py :: Tm.pys ts) (u.py :: Tm.pys us) = true := e
        rw [eqvs_cons, Bool.and_eq_true] at e1
        rw [h t (List.mem_cons_self ..) u e1.1, ih us (fun v hv => h v (List.mem_cons_of_mem _ hv)) e1.2]
  refine Tm.ind (fun n u e => ?_) (fun n u e => ?_) fun h ts ih u e => ?_
  · have w := wd _ _ (eqv_word e)
    cases u with
    | num m =>
      rw [nu, nu, eqv_tup, eqvs_cons, eqvs_cons, eqv_int, Bool.and_eq_true, Bool.and_eq_true, beq_iff_eq] at e
      have := e.2.1
      obtain rfl : n = m := by omega
      rfl
    | _ => exact w.elim
  · have w := wd _ _ (eqv_word e)
    cases u with
    | arg m =>
      rw [ar, ar, eqv_tup, eqvs_cons, eqvs_cons, eqv_int, Bool.and_eq_true, Bool.and_eq_true, beq_iff_eq] at e
      have := e.2.1
      obtain rfl : n = m := by omega
      rfl
    | num _ => exact w.elim
    | node _ _ => exact w.elim
  · have w := wd _ _ (eqv_word e)
    cases u with
    | num m => cases h <;> exact w.elim
    | arg m => cases h <;> exact w.elim
    | node g us =>
      cases h with
      | op o =>
        cases g with
        | op p =>
          have w2 : o = p := w
          subst w2
          rw [op, op, eqv_tup, eqvs_cons, Bool.and_eq_true] at e
          rw [all ts us ih e.2]
        | call _ => exact w.elim
        | ring _ => exact w.elim
      | call m =>
        cases g with
        | op _ => exact w.elim
        | ring _ => exact w.elim
        | call k =>
          rw [ca, ca, eqv_tup, eqvs_cons, eqvs_cons, eqvs_cons, eqv_str, eqv_str, eqv_tup, Bool.and_eq_true, Bool.and_eq_true, Bool.and_eq_true, beq_iff_eq, beq_iff_eq] at e
          rw [e.2.1, all ts us ih e.2.2.1]
      | ring m =>
        cases g with
        | op _ => exact w.elim
        | call _ => exact w.elim
        | ring k =>
          rw [ri, ri, eqv_tup, eqvs_cons, eqvs_cons, eqvs_cons, eqv_str, eqv_int, eqv_tup, Bool.and_eq_true, Bool.and_eq_true, Bool.and_eq_true, beq_iff_eq, beq_iff_eq] at e
          have e1 := e.2.1
          obtain rfl : m = k := by omega
          rw [all ts us ih e.2.2.1]
/-! ### terms as data that can be laid -/
theorem str_ok {x : Str} (h : ∀ c ∈ tl x, c < 1114112) : PyData.strOk x = true := by
  unfold PyData.strOk
  rw [← Array.all_toList, List.all_eq_true]
  exact fun c hc => decide_eq_true (h c hc)
theorem py_lay : ∀ {M : Nat} (t : Tm), t.Ok M → t.py.canLay0 = true ∧ t.py.depth ≤ 2 * t.deep := by
  intro M
  have wo : ∀ o : Op, PyData.canLay0 (.str o.str) = true := by intro o; cases o <;> decide +kernel
  have all : ∀ ts : List Tm, (∀ t ∈ ts, t.py.canLay0 = true ∧ t.py.depth ≤ 2 * t.deep) → PyData.canLayAll0 (Tm.pys ts) = true ∧ PyData.depthAll (Tm.pys ts) ≤ 2 * Tm.deeps ts := by
    intro ts
    induction ts with
    | nil => exact fun _ => ⟨by simp [Tm.pys, PyData.canLayAll0], by simp [Tm.pys, PyData.depthAll]⟩
    | cons t ts ih =>
      intro h
      obtain ⟨h1, h2⟩ := h t (List.mem_cons_self ..)
      obtain ⟨i1, i2⟩ := ih fun u hu => h u (List.mem_cons_of_mem _ hu)
      refine ⟨?_, ?_⟩
      · show PyData.canLayAll0 (t.py :: Tm.pys ts) = true
        rw [PyData.canLayAll0, h1, i1]
        rfl
      · show PyData.depthAll (t.py :: Tm.pys ts) ≤ 2 * max t.deep (Tm.deeps ts)
        rw [PyData.depthAll]
        omega
  refine Tm.ind (fun n k => ⟨?_, ?_⟩) (fun n k => ⟨?_, ?_⟩) fun h ts ih k => ?_
  · show PyData.canLay0 (.tuple [.str "num", .int (n : Int)]) = true
    have : PyData.canLay0 (.str "num") = true := by decide +kernel
    simp only [PyData.canLay0, PyData.canLayAll0] at this ⊢
    rw [this]
    rfl
  · show PyData.depth (.tuple [.str "num", .int (n : Int)]) ≤ 2
    simp [PyData.depth, PyData.depthAll]
  · show PyData.canLay0 (.tuple [.str "arg", .int (n : Int)]) = true
    have : PyData.canLay0 (.str "arg") = true := by decide +kernel
    simp only [PyData.canLay0, PyData.canLayAll0] at this ⊢
    rw [this]
    rfl
  · show PyData.depth (.tuple [.str "arg", .int (n : Int)]) ≤ 2
    simp [PyData.depth, PyData.depthAll]
  · cases k with
    | node hh hks =>
    obtain ⟨a1, a2⟩ := all ts fun t ht => ih t ht (hks t ht)
    have td : (Tm.node h ts).deep = 1 + Tm.deeps ts := rfl
    cases h with
    | op o =>
      refine ⟨?_, ?_⟩
      · show PyData.canLay0 (.tuple (.str o.str :: Tm.pys ts)) = true
        have := wo o
        rw [PyData.canLay0, PyData.canLayAll0, this, a1]
        rfl
      · show PyData.depth (.tuple (.str o.str :: Tm.pys ts)) ≤ _
        rw [PyData.depth, PyData.depthAll, PyData.depth]
        omega
    | call m =>
      refine ⟨?_, ?_⟩
      · show PyData.canLay0 (.tuple [.str "call", .str m, .tuple (Tm.pys ts)]) = true
        have w1 : PyData.canLay0 (.str "call") = true := by decide +kernel
        have w2 : PyData.canLay0 (.str m) = true := by
          rw [PyData.canLay0]
          exact str_ok fun c hc => by
            have := hh.1.2 c hc
            omega
        rw [PyData.canLay0, PyData.canLayAll0, PyData.canLayAll0, PyData.canLayAll0, PyData.canLayAll0, w1, w2]
        rw [PyData.canLay0, a1]
        rfl
      · show PyData.depth (.tuple [.str "call", .str m, .tuple (Tm.pys ts)]) ≤ _
        simp only [PyData.depth, PyData.depthAll]
        omega
    | ring m =>
      refine ⟨?_, ?_⟩
      · show PyData.canLay0 (.tuple [.str "ring", .int (m : Int), .tuple (Tm.pys ts)]) = true
        have w1 : PyData.canLay0 (.str "ring") = true := by decide +kernel
        rw [PyData.canLay0, PyData.canLayAll0, PyData.canLayAll0, PyData.canLayAll0, PyData.canLayAll0, w1]
        rw [PyData.canLay0, PyData.canLay0, a1]
        rfl
      · show PyData.depth (.tuple [.str "ring", .int (m : Int), .tuple (Tm.pys ts)]) ≤ _
        simp only [PyData.depth, PyData.depthAll]
        omega
theorem py_shaped {M : Nat} {t : Tm} (k : t.Ok M) (h : t.deep ≤ 32) : SeqAt.shaped t.py = true := by
  obtain ⟨h1, h2⟩ := py_lay t k
  unfold SeqAt.shaped
  rw [h1, decide_eq_true (by omega)]
  rfl
theorem py_refl {M : Nat} {t : Tm} (k : t.Ok M) : PyData.eqv t.py t.py = true := SeqAt.eqv_refl _ (py_lay t k).1
end V


set_option Elab.async false
set_option linter.all false
set_option maxRecDepth 100000
set_option maxHeartbeats 4000000
/-! defs that ask for repr: their promise holds where no repr is under way -/
namespace V
open PySem PySem.Spec PyProof.Rows L2 Evl
structure FnG (P : Program) (w : World) (K : PySem.W.Frag) (mg : Str → Option Value) (base : Heap) (k : Nat) (f : Addr) (fd : FuncData) (ps : List Str) (sp : Sp) : Prop where
  len : ∀ vs H Q E, sp vs H Q E → vs.length = ps.length
  go : ∀ (B : Around) (fr : List Env) (s : Shared) (H : Hp) (ar : Args) (us : List Value) (vs : List V) (Q : VK) (E : XK), Room k B → B.guards = some [] → Env0 P w K mg base B fr s H → BindsTo s fd ar (ps.zip us) → Vals vs us → sp vs H Q E →
    codeAny (model P w) B (.call (.ref f) ar) (CR CX0 fr P w H s Q E) s
theorem FnG.of {P : Program} {w : World} {K : PySem.W.Frag} {mg : Str → Option Value} {base : Heap} {k : Nat} {f : Addr} {fd : FuncData} {ps : List Str} {sp : Sp} (F : FnOk P w K mg base CX0 k f fd ps sp) : FnG P w K mg base k f fd ps sp :=
  ⟨F.len, fun B fr s H ar us vs Q E hr _ => F.run B fr s H ar us vs Q E hr⟩
structure CalG (P : Program) (w : World) (K : PySem.W.Frag) (mg : Str → Option Value) (base : Heap) (k : Nat) (x : Str) (ps : List Str) (sp : Sp) : Prop where
  ex : ∃ (f : Addr) (fd : FuncData), FnG P w K mg base k f fd ps sp ∧ mg x = some (.ref f) ∧ PySem.W.keepIn K (.ref f) = true ∧ Binds K fd ps []
section
variable {P : Program} {w : World} {K : PySem.W.Frag} {mg : Str → Option Value} {base : Heap} {x : Str} {st : Stmt} {ps N : List Str} {k : Nat} {sp : Sp} {f : Addr} {fd : FuncData} {qual : Str} {scope : Scope} {params : Arguments} {blk : List Stmt}
theorem fnG_of {cdv dV kV doc pm ct oc : Value} {an od : Option Addr} {osl : Array (Option Value)} (lk : K.lookup f = some ⟨oc, od, .func (PySem.W.fnOf x qual params blk scope dV kV doc pm an cdv ct), osl⟩) (cdI : PySem.W.codeIn K cdv qual = true)
    (S : FnScope N ps scope) (len : ∀ vs H Q E, sp vs H Q E → vs.length = ps.length)
    (body : ∀ (B : Around) (fr : List Env) (s : Shared) (H : Hp) (vs : List V) (Q : VK) (E : XK), Room k (B.deeper (envOfC qual scope s.heap.objs.size f cdv)) → (B.deeper (envOfC qual scope s.heap.objs.size f cdv)).guards = some [] → sp vs H Q E →
      ∃ t, PSs (cxOf CX0 P w K mg base N qual scope f cdv B fr s H E) blk t ∧ t { nx := fun _ H' => Q .non H', rt := Q } (start N vs) H) :
    FnG P w K mg base (k + 1) f (PySem.W.fnOf x qual params blk scope dV kV doc pm an cdv ct) ps sp := by
  refine ⟨len, fun B fr s H ar us vs Q E hr hG e0 hb r hs => ?_⟩
  have ll := len _ _ _ _ hs
  have inK : K.In s.heap := e0.mod.kin.keeps fun c o e => (e0.bs c o e).1
  have noL : s.heap.NoLimit := e0.mod.nolimit.keeps fun c o e => (e0.bs c o e).1
  have kinds : ∀ y ∈ ps.zip us, scope.names.lookup y.1 = some .local ∨ (scope.names.lookup y.1 = some .cell ∧ ((cellsFrom (s.heap.objs.size + 1) scope.names []).lookup y.1).isSome = true) := fun ⟨n, v⟩ hy => by
    rcases S.par n (List.of_mem_zip hy).1 with c | c
    · exact .inl c
    · exact .inr ⟨c, PySem.W.cellsFrom_some _ _ _ (.inl c)⟩
  refine codeAny_call_function hr.depth (inK _ _ lk) rfl S.co S.gen rfl (PySem.W.codeRec_of inK cdI) (hb _ _ _ _ ?_)
  refine wpAny_newFunctionEnv_cells S.kind kinds fun env he s1 y => ?_
  subst he
  refine ⟨noL.keeps y.toInCall.keep, codeAny_func ?_⟩
  obtain ⟨t, ht, hq⟩ := body B fr s H vs Q E (hr.deeper _) hG hs
  have I : L2.Inv (cxOf CX0 P w K mg base N qual scope f cdv B fr s H E) [] (start N vs) H s1 := inv_start S hr.hd e0 ll r y
  refine wpAny_mono (ht.run [] s1 (start N vs) H _ I hq) (fun fl s2 hs => ?_) fun e s2 hs => hs
  have fin : ∀ {τ : L2.St} {H2 : Hp} {v : V} {u : Value}, L2.Inv (cxOf CX0 P w K mg base N qual scope f cdv B fr s H E) [] τ H2 s2 → RelV v u → Q v H2 → CE fr P w H s Q u s2 :=
    fun {τ H2 v u} J rv q => ⟨v, H2, J.os, J.bare, J.base, J.hok, rv, q⟩
  cases fl with
  | ret u =>
    obtain ⟨v, τ, H2, J, rv, q⟩ := hs
    exact fin J rv q
  | next =>
    obtain ⟨τ, H2, J, q⟩ := hs
    exact fin (v := V.non) (u := Value.none) J rfl q
  | brk => exact False.elim hs.choose_spec.choose_spec.2
  | cont => exact False.elim hs.choose_spec.choose_spec.2
theorem FunD.okG {dvs : List V} {kws : List (Str × V)} (F : FunD K x qual params blk scope dvs kws f fd) (S : FnScope N ps scope) (len : ∀ vs H Q E, sp vs H Q E → vs.length = ps.length)
    (body : ∀ (cdv : Value) (B : Around) (fr : List Env) (s : Shared) (H : Hp) (vs : List V) (Q : VK) (E : XK), Room k (B.deeper (envOfC qual scope s.heap.objs.size f cdv)) → (B.deeper (envOfC qual scope s.heap.objs.size f cdv)).guards = some [] → sp vs H Q E →
      ∃ t, PSs (cxOf CX0 P w K mg base N qual scope f cdv B fr s H E) blk t ∧ t { nx := fun _ H' => Q .non H', rt := Q } (start N vs) H) : FnG P w K mg base (k + 1) f fd ps sp := by
  obtain ⟨oc, od, dV, kV, doc, pm, an, cdv, ct, osl, rfl, lk, hcd, _, _⟩ := F.ex
  exact fnG_of lk hcd S len fun B fr s H vs Q E hr hG hs => body cdv B fr s H vs Q E hr hG hs
theorem Def.calG (D : Def K mg x st ps) (S : FnScope N ps (defScope st)) (len : ∀ vs H Q E, sp vs H Q E → vs.length = ps.length)
    (body : ∀ (f : Addr) (cdv : Value) (B : Around) (fr : List Env) (s : Shared) (H : Hp) (vs : List V) (Q : VK) (E : XK),
      Room k (B.deeper (envOfC x (defScope st) s.heap.objs.size f cdv)) → (B.deeper (envOfC x (defScope st) s.heap.objs.size f cdv)).guards = some [] → sp vs H Q E →
      ∃ t, PSs (cxOf CX0 P w K mg base N x (defScope st) f cdv B fr s H E).nox (defBody st) t ∧
        t { nx := fun _ H' => Q .non H', rt := Q } (start N vs) H) : CalG P w K mg base (k + 1) x ps sp := by
  obtain ⟨f, fd, F, hm, hb⟩ := D.ex
  refine ⟨f, fd, FunD.okG F S len (fun cdv B fr s H vs Q E hr hG h => ?_), hm, F.kp, hb⟩
  obtain ⟨t, h1, h2⟩ := body f cdv B fr s H vs Q E hr hG h
  exact ⟨t, h1.nox, h2⟩
theorem Cal.g (C : Cal P w K mg base k x ps sp) : CalG P w K mg base k x ps sp := by
  obtain ⟨f, fd, F, h1, h2, h3⟩ := C.ex
  exact ⟨f, fd, FnG.of F, h1, h2, h3⟩
end
section
variable {X : Cx}
theorem run_G {pins : List (Addr × Obj)} {σ : L2.St} {H : Hp} {s : Shared} {Q : VK} {us : List Value} {vs : List V} {k : Nat} {f : Addr} {fd : FuncData} {ps : List Str} {sp : Sp} (F : FnG X.prog X.w X.K X.mg X.base k f fd ps sp) (hr : Room k X.A) (hG : X.A.guards = some [])
    (hb : Binds X.K fd ps []) (I : L2.Inv X pins σ H s) (r : Vals vs us) (h : sp vs H Q E0) : wpAny (model X.prog X.w) X.A (call (.ref f) us) (EP X pins σ Q) X.xe s := by
  have ll : (us ++ []).length = ps.length := by rw [List.append_nil, ← r.length]; exact F.len _ _ _ _ h
  have b := hb s us I.kIn ll
  rw [List.append_nil] at b
  refine wpAny_call (codeAny_mono (F.go X.A X.stack s H ⟨us, []⟩ us vs Q E0 hr hG I.env0 b r h) fun res s2 hq => ?_)
  cases res with
  | error e => exact pass0 pins σ H s e s2 I hq
  | ok fl =>
    cases fl with
    | ret u => exact I.after hq
    | next => exact False.elim hq
    | brk => exact False.elim hq
    | cont => exact False.elim hq
theorem pe_fnG {j k : Nat} {x : Str} {ps : List Str} {sp : Sp} {e : Expr} {es : List Expr} {t : TA} {p pos : Pos} (C : CalG X.prog X.w X.K X.mg X.base k x ps sp) (hG : X.A.guards = some []) (hr : Room j X.A) (hk : k ≤ j) (ha : PA X (e :: es) t)
    (hg : Gl X x := by rfl) (hdb : (x == ("__debug__" : Str)) = false := by decide) (he : starEach (e :: es) X.env = (false, eval e X.env) :: starEach es X.env := by rfl)
    (hpl : (backTo pos (starEach es X.env)).any (·.1) = false := by rfl) : PE X (.Call (.Name x p) (e :: es) [] pos) (tFn sp t) := by
  obtain ⟨f, fd, F, h1, h2, h3⟩ := C.ex
  refine ⟨fun pins s σ H Q I q => ?_⟩
  refine wpAny_Call_Name_kw (ld_glob I hg h1 ?_ hdb)
  refine PySem.W.callWith_K (h₀ := X.base) I.ok.mod.kin h2 (thn (ha.run pos pins s σ H _ I q) fun us s1 ⟨vs, H1, I1, r, q1⟩ => ⟨I1.kIn, ?_⟩) he hpl
  exact run_G F (hr.mono hk) hG h3 I1 r q1
/-- repr(x) of data -/
def rRepr (K : PySem.W.Frag) : List V → Hp → VK → Prop := fun vs H Q => ∃ (v : V) (d : PyData), vs = [v] ∧ Dp K H v d ∧ d.showable = true ∧ d.hasDict = false ∧ d.depth ≤ 64 ∧ d.shown.length ≤ sizeLine ∧ Q (.str d.shown) H
theorem cr_repr (hG : X.A.guards = some []) (hu : X.A.units + 80 < cLine) : CallR X (.builtin "repr") (rRepr X.K) := by
  intro pins s σ H vs us Q I r h
  obtain ⟨v, d, rfl, hd, hs, nd, dp, sz, q⟩ := h
  obtain ⟨u, rfl, rv⟩ := vals1 r
  cases hd with
  | non =>
    cases rv
    exact PySem.P.repr_of_none ⟨.str "None", H, I.tok _, ⟨_, rfl⟩, by simpa only [PyData.shown] using q⟩
  | bl b =>
    cases rv
    exact PySem.P.repr_of_bool ⟨.str (if b then "True" else "False"), H, I.tok _, ⟨_, by cases b <;> rfl⟩, by simpa only [PyData.shown] using q⟩
  | int i =>
    obtain ⟨t, rfl⟩ := rv
    have hs' : i.natAbs.log2 < 1920 := by
      rw [PyData.showable, decide_eq_true_eq] at hs
      exact hs
    exact PySem.P.repr_of_int hs' ⟨.str (toString i), H, I.tok _, ⟨_, rfl⟩, by simpa only [PyData.shown] using q⟩
  | str x =>
    obtain ⟨t, rfl⟩ := rv
    have sz' : (reprText x).length ≤ sizeLine := by simpa only [PyData.shown] using sz
    exact PySem.P.repr_of_str ⟨.str (reprText x), H, I.tok _, ⟨_, rfl⟩, by simpa only [PyData.shown] using q⟩ sz'
  | lst hl hk =>
    cases rv
    obtain ⟨as, rd⟩ := Dp.reads I _ _ _ (Dp.lst hl hk) rfl
    exact repr_of_reads' rd hs (fun e => by rw [nd] at e; cases e) hG (by omega) (fun _ _ e => e) (fun h' t tk hk => ⟨.str _, H, I.kept hk, ⟨_, rfl⟩, q⟩) sz
  | tup hl hk =>
    cases rv
    obtain ⟨as, rd⟩ := Dp.reads I _ _ _ (Dp.tup hl hk) rfl
    exact repr_of_reads' rd hs (fun e => by rw [nd] at e; cases e) hG (by omega) (fun _ _ e => e) (fun h' t tk hk => ⟨.str _, H, I.kept hk, ⟨_, rfl⟩, q⟩) sz
end
/-! ### the end of a law -/
theorem lawG {P : Program} {w : World} {K : PySem.W.Frag} {mg mb : Str → Option Value} {k : Nat} {fa a : Addr} {fd : FuncData} {x : Str} {sp : Sp} {s : Shared} {vs : List Value} {ns : List Int}
    (KX : K.In s.heap) (n1 : s.heap.Ns mainGlobals mg) (n2 : s.heap.Ns builtinsNs mb) (n3 : ∀ x : Str, x ≠ "__name__" → mb x = bootBuiltins x) (noL : s.heap.NoLimit) (ng : s.gens = #[])
    (ha : s.heap.get? a = some { cls := .type "list", data := .seq vs.toArray }) (hi : IntsAre vs ns) (le : ns.length ≤ sizeLine) (hr : Room k callerA)
    (F : ∀ base : Heap, K.In base → base.Ns mainGlobals mg → FnG P w K mg base k fa fd [x] sp) (bd : ∀ (s : Shared) (u : Value), BindsTo s fd ⟨[u], []⟩ [(x, u)])
    (hsp : ∀ H : Hp, Only H → SqL K H a (ns.map V.int) → sp [.ref a] H (fun v _ => v = .bl true) fun _ _ _ => False) :
    codeAny (model P w) callerA (.call (.ref fa) ⟨[.ref a], []⟩) (fun r s' => r = .ok (.ret (.bool true)) ∧ OldK s.heap s'.heap ∧ s'.os = s.os ∧ AllBare s'.gens) s := by
  have rv := vals_ints hi
  have lv := hi.length
  have core : ∀ H : Hp, Only H → SqL K H a (ns.map V.int) → HOk P w H s.heap → (∀ b, H b ≠ none → b = a) → (H a ≠ none → K.lookup a = none) →
      codeAny (model P w) callerA (.call (.ref fa) ⟨[.ref a], []⟩) (fun r s' => r = .ok (.ret (.bool true)) ∧ OldK s.heap s'.heap ∧ s'.os = s.os ∧ AllBare s'.gens) s := by
    intro H hO hS ok only noK
    have got : ∀ {b : Addr} {o : Obj}, s.heap.get? b = some o → H b = none → (hidT s.heap H).get? b = some o := fun e n => hidT_get e n
    have noH : ∀ {b : Addr} {o : Obj} {es : Array DictEntry} {ep : Nat}, s.heap.get? b = some o → o.data = .dict es ep → H b = none := fun {b o es ep} e d => by
      by_cases z : H b = none
      · exact z
      · have e2 := only b z
        subst e2
        rw [ha] at e
        cases e
        have d2 : Data.seq vs.toArray _ = Data.dict es ep := d
        cases d2
    have ns' : ∀ {b : Addr} {m : Str → Option Value}, s.heap.Ns b m → (hidT s.heap H).Ns b m := fun {b m} ⟨o, es, ep, e, d, r⟩ => ⟨o, es, ep, got e (noH e d), d, r⟩
    have inK : K.In (hidT s.heap H) := fun b o e => got (KX b o e) (by
      by_cases z : H b = none
      · exact z
      · have e2 := only b z
        subst e2
        rw [noK z] at e
        cases e)
    have md : Mod K mg (hidT s.heap H) := ⟨inK, ns' n1, ⟨mb, ns' n2, n3⟩, let ⟨mc, h1, h2⟩ := noL; ⟨mc, ns' h1, h2⟩⟩
    have e0 : Env0 P w K mg (hidT s.heap H) callerA [] s H := ⟨rfl, md, fun b o e => of_hidT e, Nat.le_of_eq (hidT_size _ _), trivial, fun b hb => absurd (show b ∈ ([] : List Addr) from hb) (by simp), ok, .of_eq ng⟩
    refine codeAny_mono ((F _ inK (ns' n1)).go callerA [] s H ⟨[.ref a], []⟩ [.ref a] [.ref a] _ _ hr rfl e0 (bd s (.ref a)) (.cons rfl .nil) (hsp H hO hS)) fun r s2 h => ?_
    cases r with
    | error e => exact False.elim h
    | ok fl =>
      cases fl with
      | next => exact False.elim h
      | brk => exact False.elim h
      | cont => exact False.elim h
      | ret u =>
        obtain ⟨v, H2, os, bare, un, ok2, r2, q⟩ := h
        have q2 : v = .bl true := q
        subst q2
        obtain rfl : u = Value.bool true := r2
        refine ⟨rfl, OldK.of_keep fun b o e => ?_, os, bare⟩
        cases z : H b with
        | none => exact un.keep b o e z (fun z => absurd (show b ∈ ([] : List Addr) from z) (by simp)) (by simp)
        | some u =>
          rcases hO b with y | ⟨ob, xs, y⟩
          · rw [z] at y
            cases y
          · have y2 := un.frzs b ob _ y
            obtain ⟨e1, _⟩ := ok b _ y
            obtain ⟨e2, _⟩ := ok2 b _ y2
            rw [e] at e1
            cases e1
            exact e2
  cases hk : K.lookup a with
  | some o =>
    have e := KX a o hk
    rw [ha] at e
    cases e
    exact core (fun _ => none) (fun _ => .inl rfl) (.inr ⟨_, vs.toArray, _, hk, rfl, rfl, rfl, by rw [List.size_toArray, lv]; exact le, by simpa using rv⟩) (fun b u z => by cases (show (none : Option HO) = some u from z)) (fun b z => absurd rfl z) fun z => absurd rfl z
  | none =>
    let H1 : Hp := fun b => if b = a then some (.frz { cls := .type "list", data := .seq vs.toArray } (.lst (ns.map V.int))) else none
    have yes : H1 a = some (.frz { cls := .type "list", data := .seq vs.toArray } (.lst (ns.map V.int))) := if_pos rfl
    have no : ∀ b, b ≠ a → H1 b = none := fun b z => if_neg z
    refine core H1 (fun b => ?_) (.inl (.inr ⟨_, yes⟩)) (fun b u z => ?_) (fun b z => ?_) fun _ => hk
    · by_cases c : b = a
      · exact .inr ⟨_, _, c ▸ yes⟩
      · exact .inl (no b c)
    · by_cases c : b = a
      · subst c
        rw [yes] at z
        cases z
        exact ⟨ha, by rw [List.length_map]; exact le, vs, _, rv, ha⟩
      · rw [no b c] at z
        cases z
    · by_cases c : b = a
      · exact c
      · exact absurd (no b c) z
theorem walkG {l : PySem.W.OpenLaw} {n k : Nat} {q : Program} {loose : List Str} {XP : (Str → Option Value) → Heap → Prop} {YP : World → Heap → Prop} {d : DefRec} {x : Str}
    (hn : l.most = some n) (n2 : n ≤ sizeLine) (hdf : d.params.defaults = []) (hr : Room k callerA)
    (F : ∀ (w : World) (mg : Str → Option Value) (fa : Addr) (h : Heap), YP w h → h.Ns mainGlobals mg → mg d.name = some (.ref fa) →
      ∃ (K : PySem.W.Frag) (fd : FuncData) (sp : Sp), K.In h ∧ (∀ (s : Shared) (u : Value), BindsTo s fd ⟨[u], []⟩ [(x, u)]) ∧
        (∀ (H : Hp) (a : Addr) (ns : List Int), ns.length ≤ n → Only H → SqL K H a (ns.map V.int) → sp [.ref a] H (fun v _ => v = .bl true) fun _ _ _ => False) ∧
        ∀ base : Heap, K.In base → base.Ns mainGlobals mg → FnG l.prog w K mg base k fa fd [x] sp) :
    PySem.W.WalkO q loose XP YP l.row.toRowW d [] (fun f vs => PySem.call f vs) := by
  refine Att.attach_call hn hdf fun w s0 s1 mg mb fa o pm cd doc a vs ns G Y ho hd hcd hmg hob hints hlen hg => ?_
  obtain ⟨K, fd, sp, KX, hb, hsp, hF⟩ := F w mg fa _ Y G.T.g hmg
  exact lawG KX G.T.g G.T.b G.T.builtins G.T.nolimit hg hob hints (Nat.le_trans hlen n2) hr hF hb (fun H hO hS => hsp H a ns hlen hO hS)
end V


set_option Elab.async false
set_option linter.all false
set_option maxRecDepth 100000
set_option maxHeartbeats 400000
namespace V
open PySem PySem.Spec PyProof.Rows L2 Evl TL NumText
theorem room_u {k : Nat} {A : Around} (r : Room k A) : A.units + 80 < cLine := by
  have := r.un
  omega
theorem join2_len : ∀ ts : List Str, (Str.join ", " ts).length ≤ (ts.map (·.length)).sum + 2 * ts.length
  | [] => by
    show ("" : Str).length ≤ 0
    decide +kernel
  | [x] => by
    show x.length ≤ _
    rw [List.map_cons, List.sum_cons]
    omega
  | x :: y :: r => by
    have ih := join2_len (y :: r)
    show (x ++ ", " ++ Str.join ", " (y :: r)).length ≤ _
    rw [str_len_append, str_len_append, show (", " : Str).length = 2 by decide +kernel, List.map_cons, List.sum_cons, List.length_cons]
    omega
theorem tuple_len (ts : List Str) : (tupleText ts).length ≤ (ts.map (·.length)).sum + 2 * ts.length + 3 := by
  unfold tupleText
  have h := join2_len ts
  rw [str_len_append, str_len_append, show ("(" : Str).length = 1 by decide +kernel]
  have : ((if (ts.length == 1) = true then ",)" else ")" : String) : Str).length ≤ 2 := by
    split
    · decide +kernel
    · decide +kernel
  omega
theorem shownAll_map (ds : List PyData) : PyData.shownAll ds = ds.map PyData.shown := by
  induction ds with
  | nil => simp [PyData.shownAll]
  | cons d ds ih => rw [PyData.shownAll, ih, List.map_cons]
theorem shown_tup (ds : List PyData) : (PyData.tuple ds).shown.length ≤ (ds.map fun d => d.shown.length).sum + 2 * ds.length + 3 := by
  rw [PyData.shown]
  have h := tuple_len (PyData.shownAll ds)
  rw [shownAll_map, List.map_map, List.length_map] at h
  rw [shownAll_map]
  exact h
theorem shown_str {x : Str} (h : ∀ c ∈ tl x, c < 1114112) : (PyData.str x).shown.length ≤ 10 * x.length + 2 := by
  rw [PyData.shown]
  exact StrLaws.reprText_len x fun c hc => Nat.lt_trans (h c hc) (by decide)
theorem shown_nat {n : Nat} (h : n < 10000000) : (PyData.int (n : Int)).shown.length ≤ 7 := by
  rw [PyData.shown]
  exact nt_len h
theorem ascii_of {x : Str} (h : x.cps.toList.all (fun c => decide (c < 1114112)) = true) : ∀ c ∈ tl x, c < 1114112 := fun c hc => of_decide_eq_true (List.all_eq_true.mp h c hc)
theorem op_len (o : Op) : o.str.length ≤ 5 := by cases o <;> decide +kernel
theorem op_asc (o : Op) : ∀ c ∈ tl o.str, c < 1114112 := ascii_of (by cases o <;> decide +kernel)
theorem py_shown {M : Nat} (hM : M ≤ 1000002) : ∀ t : Tm, t.Ok M → t.py.shown.length ≤ 150 * t.size := by
  have each : ∀ ts : List Tm, (∀ t ∈ ts, t.py.shown.length ≤ 150 * t.size) → ((Tm.pys ts).map fun d => d.shown.length).sum ≤ 150 * Tm.sizes ts := by
    intro ts
    induction ts with
    | nil => exact fun _ => Nat.le_refl _
    | cons t ts ih =>
      intro h
      have i1 := ih fun u hu => h u (List.mem_cons_of_mem _ hu)
      have i2 := h t (List.mem_cons_self ..)
      show t.py.shown.length + ((Tm.pys ts).map fun d => d.shown.length).sum ≤ 150 * (t.size + Tm.sizes ts)
      omega
  refine Tm.ind (fun n k => ?_) (fun n k => ?_) fun h ts ih k => ?_
  · cases k with
    | num hn =>
      have h1 := shown_tup [.str "num", .int (n : Int)]
      have h2 := shown_str (x := "num") (ascii_of (by decide +kernel))
      have h3 := shown_nat (n := n) (by omega)
      have l3 : ("num" : Str).length = 3 := by decide +kernel
      show (PyData.tuple [.str "num", .int (n : Int)]).shown.length ≤ 150
      simp only [List.map_cons, List.map_nil, List.sum_cons, List.sum_nil, List.length_cons, List.length_nil] at h1
      omega
  · cases k with
    | arg hn =>
      have h1 := shown_tup [.str "arg", .int (n : Int)]
      have h2 := shown_str (x := "arg") (ascii_of (by decide +kernel))
      have h3 := shown_nat (n := n) (by omega)
      have l3 : ("arg" : Str).length = 3 := by decide +kernel
      show (PyData.tuple [.str "arg", .int (n : Int)]).shown.length ≤ 150
      simp only [List.map_cons, List.map_nil, List.sum_cons, List.sum_nil, List.length_cons, List.length_nil] at h1
      omega
  · cases k with
    | node hh hks =>
    have e := each ts fun t ht => ih t ht (hks t ht)
    have le := hh.le
    have nz : (Tm.node h ts).size = 1 + Tm.sizes ts := rfl
    have pl : (Tm.pys ts).length = ts.length := by rw [pys_map, List.length_map]
    have hp := shown_tup (Tm.pys ts)
    cases h with
    | op o =>
      have h1 := shown_tup (.str o.str :: Tm.pys ts)
      have h2 := shown_str (op_asc o)
      have h3 := op_len o
      show (PyData.tuple (.str o.str :: Tm.pys ts)).shown.length ≤ _
      simp only [List.map_cons, List.sum_cons, List.length_cons] at h1
      omega
    | call m =>
      have h1 := shown_tup [.str "call", .str m, .tuple (Tm.pys ts)]
      have h2 := shown_str (x := "call") (ascii_of (by decide +kernel))
      have h3 := shown_str (x := m) fun c hc => by have := hh.1.2 c hc; omega
      have l4 : ("call" : Str).length = 4 := by decide +kernel
      have l6 : m.length = 6 := hh.1.1
      show (PyData.tuple [.str "call", .str m, .tuple (Tm.pys ts)]).shown.length ≤ _
      simp only [List.map_cons, List.map_nil, List.sum_cons, List.sum_nil, List.length_cons, List.length_nil] at h1
      omega
    | ring m =>
      have h1 := shown_tup [.str "ring", .int (m : Int), .tuple (Tm.pys ts)]
      have h2 := shown_str (x := "ring") (ascii_of (by decide +kernel))
      have mM : m ≤ M := hh.1
      have h3 := shown_nat (n := m) (by omega)
      have l4 : ("ring" : Str).length = 4 := by decide +kernel
      show (PyData.tuple [.str "ring", .int (m : Int), .tuple (Tm.pys ts)]).shown.length ≤ _
      simp only [List.map_cons, List.map_nil, List.sum_cons, List.sum_nil, List.length_cons, List.length_nil] at h1
      omega
theorem py_showable {M : Nat} (hM : M ≤ 1000002) : ∀ t : Tm, t.Ok M → t.py.showable = true := by
  have each : ∀ ts : List Tm, (∀ t ∈ ts, t.py.showable = true) → PyData.showableAll (Tm.pys ts) = true := by
    intro ts
    induction ts with
    | nil => exact fun _ => by simp [Tm.pys, PyData.showableAll]
    | cons t ts ih =>
      intro h
      show PyData.showableAll (t.py :: Tm.pys ts) = true
      rw [PyData.showableAll, h t (List.mem_cons_self ..), ih fun u hu => h u (List.mem_cons_of_mem _ hu)]
      rfl
  have int : ∀ n : Nat, n ≤ 1000002 → PyData.showable (.int (n : Int)) = true := fun n hn => by
    rw [PyData.showable]
    exact decide_eq_true (log_small (by omega) (by omega))
  refine Tm.ind (fun n k => ?_) (fun n k => ?_) fun h ts ih k => ?_
  · cases k with
    | num hn =>
      show PyData.showable (.tuple [.str "num", .int (n : Int)]) = true
      rw [PyData.showable, PyData.showableAll, PyData.showableAll, PyData.showableAll, int n hn, PyData.showable]
      rfl
  · cases k with
    | arg hn =>
      show PyData.showable (.tuple [.str "arg", .int (n : Int)]) = true
      rw [PyData.showable, PyData.showableAll, PyData.showableAll, PyData.showableAll, int n (by omega), PyData.showable]
      rfl
  · cases k with
    | node hh hks =>
    have e := each ts fun t ht => ih t ht (hks t ht)
    cases h with
    | op o =>
      show PyData.showable (.tuple (.str o.str :: Tm.pys ts)) = true
      rw [PyData.showable, PyData.showableAll, PyData.showable, e]
      rfl
    | call m =>
      show PyData.showable (.tuple [.str "call", .str m, .tuple (Tm.pys ts)]) = true
      rw [PyData.showable, PyData.showableAll, PyData.showableAll, PyData.showableAll, PyData.showableAll, PyData.showable, PyData.showable, PyData.showable, e]
      rfl
    | ring m =>
      have mM : m ≤ M := hh.1
      show PyData.showable (.tuple [.str "ring", .int (m : Int), .tuple (Tm.pys ts)]) = true
      rw [PyData.showable, PyData.showableAll, PyData.showableAll, PyData.showableAll, PyData.showableAll, int m (by omega), PyData.showable, PyData.showable, e]
      rfl
theorem py_show {M : Nat} (hM : M ≤ 1000002) {t : Tm} (k : t.Ok M) (d : t.deep ≤ 32) (z : t.size ≤ 1000) : t.py.showable = true ∧ t.py.hasDict = false ∧ t.py.depth ≤ 64 ∧ t.py.shown.length ≤ sizeLine :=
  ⟨py_showable hM t k, PyData.hasDict_of_canLay _ (py_lay t k).1, by have := (py_lay t k).2; omega, by
    have h := py_shown hM t k
    have big : sizeLine = 16777216 := sizeLine_eq
    omega⟩
end V


set_option Elab.async false
set_option linter.all false
set_option maxRecDepth 100000
set_option maxHeartbeats 4000000
namespace V
open PySem PySem.Spec PyProof.Rows L2 Evl TL NumText
/-! ### places that are come to -/
def addNew (q : List Nat) : List Nat → List Nat
  | [] => q
  | p :: r => addNew (if p ∈ q then q else q ++ [p]) r
theorem addNew_add : ∀ (l q : List Nat) (p : Nat), addNew q (l ++ [p]) = (if p ∈ addNew q l then addNew q l else addNew q l ++ [p])
  | [], q, p => rfl
  | x :: l, q, p => addNew_add l (if x ∈ q then q else q ++ [x]) p
theorem nodup_snoc {q : List Nat} {p : Nat} (h : q.Nodup) (n : p ∉ q) : (q ++ [p]).Nodup := by
  rw [List.nodup_append]
  exact ⟨h, List.nodup_cons.mpr ⟨by simp, List.nodup_nil⟩, fun a ha b hb e => n (by rw [← List.mem_singleton.mp hb, ← e]; exact ha)⟩
theorem addNew_ok {n : Nat} : ∀ (l q : List Nat), q.Nodup → (∀ x ∈ q, x < n) → (∀ x ∈ l, x < n) → (addNew q l).Nodup ∧ (∀ x ∈ addNew q l, x < n) ∧ q.length ≤ (addNew q l).length
  | [], q, h1, h2, _ => ⟨h1, h2, Nat.le_refl _⟩
  | p :: l, q, h1, h2, h3 => by
    have hp := h3 p (List.mem_cons_self ..)
    have hl := fun x hx => h3 x (List.mem_cons_of_mem _ hx)
    show (addNew (if p ∈ q then q else q ++ [p]) l).Nodup ∧ _
    by_cases c : p ∈ q
    · rw [addNew, if_pos c]
      exact addNew_ok l q h1 h2 hl
    · rw [addNew, if_neg c]
      obtain ⟨a1, a2, a3⟩ := addNew_ok l (q ++ [p]) (nodup_snoc h1 c) (fun x hx => by
        rcases List.mem_append.mp hx with hx | hx
        · exact h2 x hx
        · rw [List.mem_singleton.mp hx]; exact hp) hl
      exact ⟨a1, a2, by rw [List.length_append] at a3; omega⟩
theorem nodup_le : ∀ (n : Nat) (q : List Nat), q.Nodup → (∀ x ∈ q, x < n) → q.length ≤ n
  | 0, [], _, _ => Nat.le_refl _
  | 0, x :: q, _, h => absurd (h x (List.mem_cons_self ..)) (Nat.not_lt_zero x)
  | n + 1, q, h1, h2 => by
    have h3 := nodup_le n (q.erase n) (h1.erase n) fun x hx => by
      have m := (List.Nodup.mem_erase_iff h1).mp hx
      have := h2 x m.2
      have := m.1
      omega
    rw [List.length_erase] at h3
    split at h3
    · omega
    · omega
def metLoop (L : List (List Nat)) : Nat → List Nat → Nat → List Nat
  | 0, q, _ => q
  | k + 1, q, f => if f < q.length then metLoop L k (addNew q (L.getD (q.getD f 0) [])) (f + 1) else q
/-- the places that s leads to, in the order in which they are met -/
def metF (L : List (List Nat)) (s : Nat) : List Nat := metLoop L L.length [s] 0
def intsV (l : List Nat) : List V := l.map fun x : Nat => V.int (x : Int)
def intsD (l : List Nat) : PyData := .list (l.map fun x : Nat => .int (x : Int))
def leadsD (L : List (List Nat)) : PyData := .list (L.map intsD)
theorem dps_ints {K : PySem.W.Frag} {H : Hp} : ∀ {l : List Nat} {ys : List V}, DpAll K H ys (l.map fun x : Nat => .int (x : Int)) → ys = intsV l
  | [], _, h => by
    cases h
    rfl
  | x :: l, _, h => by
    cases h with
    | cons h hs =>
      cases h
      rw [dps_ints hs]
      rfl
theorem flat_ints (l : List Nat) : (intsV l).all flatV = true := by
  unfold intsV
  rw [List.all_map, List.all_eq_true]
  exact fun _ _ => rfl
theorem in_ints (l : List Nat) (p : Nat) : inV (.int (p : Int)) (intsV l) = decide (p ∈ l) := by
  unfold inV intsV
  rw [List.any_map]
  induction l with
  | nil => rfl
  | cons x l ih =>
    rw [List.any_cons, ih]
    have e : ((fun y => eqV y (V.int (p : Int))) ∘ fun x : Nat => V.int (x : Int)) x = decide (x = p) := by
      show ((x : Int) == (p : Int)) = decide (x = p)
      by_cases c : x = p
      · rw [c, decide_eq_true rfl]
        exact beq_self_eq_true _
      · rw [decide_eq_false c]
        exact beq_eq_false_iff_ne.mpr fun z => c (by omega)
    rw [e, ← Bool.decide_or, decide_eq_decide, List.mem_cons]
    constructor
    · rintro (z | z)
      · exact .inl z.symm
      · exact .inr z
    · rintro (z | z)
      · exact .inl z.symm
      · exact .inr z
def spMet (K : PySem.W.Frag) : Sp := fun vs H Q _ => ∃ (v : V) (L : List (List Nat)) (s : Nat), vs = [.int (s : Int), v] ∧ Dp K H v (leadsD L) ∧ s < L.length ∧ L.length ≤ 1000 ∧ (∀ l ∈ L, ∀ x ∈ l, x < L.length) ∧
  ∀ (H' : Hp) (p : Addr), H p = none → Ex H H' → H' p = some (.lst (intsV (metF L s))) → Q (.ref p) H'
/-- the places that are met, as the keys of a dict -/
def MetD (H : Hp) (D : Addr) (u : List Nat) : Prop := ∃ kvs : List (Key × V), H D = some (.dK kvs) ∧ kvs.length ≤ u.length ∧ ∀ p : Nat, (valV kvs (.inl (p : Int))).isSome = decide (p ∈ u)
theorem MetD.get {H : Hp} {D : Addr} {u : List Nat} (d : MetD H D u) (p : Nat) : ∃ o, DGet H D (.int (p : Int)) o ∧ o.isSome = decide (p ∈ u) := by
  obtain ⟨kvs, h1, _, h3⟩ := d
  exact ⟨_, DGet.k (k := .inl (p : Int)) h1, h3 p⟩
theorem MetD.put {H : Hp} {D : Addr} {u : List Nat} (d : MetD H D u) {p : Nat} (hl : u.length ≤ 1000) : ∃ kvs : List (Key × V), DPut H D (.int (p : Int)) (.bl true) (upd H D (.dK kvs)) ∧ MetD (upd H D (.dK kvs)) D (u ++ [p]) := by
  obtain ⟨kvs, h1, h2, h3⟩ := d
  refine ⟨_, DPut.k (k := .inl (p : Int)) h1 (Nat.lt_of_le_of_lt (Nat.le_trans h2 hl) (by decide)), _, upd_same, ?_, fun r => ?_⟩
  · have := length_putK kvs (.inl (p : Int)) (.bl true)
    rw [List.length_append]
    exact Nat.le_trans this (Nat.succ_le_succ h2)
  · rw [valV_put]
    by_cases c : r = p
    · rw [if_pos (by rw [c]), decide_eq_true (by rw [c]; exact List.mem_append.mpr (.inr (List.mem_cons_self ..)))]
      rfl
    · rw [if_neg (fun z => c (by have := Sum.inl.inj z; omega)), h3 r, decide_eq_decide, List.mem_append]
      exact ⟨.inl, fun z => z.elim id fun z => absurd (List.mem_singleton.mp z) c⟩
theorem MetD.ne {H : Hp} {D a : Addr} {o : HO} {u : List Nat} (d : MetD H D u) (n : D ≠ a) : MetD (upd H a o) D u := by
  obtain ⟨kvs, h1, h2⟩ := d
  exact ⟨kvs, by rw [upd_ne n]; exact h1, h2⟩
end V


set_option Elab.async false
set_option linter.all false
set_option maxRecDepth 100000
set_option maxHeartbeats 4000000
namespace V
open PySem PySem.Spec PyProof.Rows L2 Evl TL NumText
/-! ### things of any kind, of a bounded size -/
mutual
def wtD : PyData → Nat
  | .list xs => wtsD xs + 1
  | .tuple xs => wtsD xs + 1
  | .none => 1
  | .bool _ => 1
  | .int _ => 1
  | .str _ => 1
  | .dict _ => 1
def wtsD : List PyData → Nat
  | [] => 0
  | x :: xs => wtD x + wtsD xs
end
theorem wt_pos (d : PyData) : 1 ≤ wtD d := by
  cases d <;> simp [wtD]
theorem wts_app : ∀ xs ys : List PyData, wtsD (xs ++ ys) = wtsD xs + wtsD ys
  | [], ys => by simp [wtsD]
  | x :: xs, ys => by
    rw [List.cons_append, wtsD, wtsD, wts_app xs ys]
    omega
theorem wts_rev : ∀ xs : List PyData, wtsD xs.reverse = wtsD xs
  | [] => rfl
  | x :: xs => by
    rw [List.reverse_cons, wts_app, wts_rev xs, wtsD, wtsD, wtsD]
    omega
theorem wts_len : ∀ xs : List PyData, xs.length ≤ wtsD xs
  | [] => Nat.zero_le _
  | x :: xs => by
    have h1 := wts_len xs
    have h2 := wt_pos x
    rw [List.length_cons, wtsD]
    omega
theorem wts_mem : ∀ {xs : List PyData} {x : PyData}, x ∈ xs → wtD x ≤ wtsD xs
  | y :: xs, x, h => by
    rw [wtsD]
    rcases List.mem_cons.mp h with rfl | h
    · omega
    · have := wts_mem h
      omega
inductive FinD (m : Nat) : PyData → Prop where
  | non : FinD m .none
  | bl (b : Bool) : FinD m (.bool b)
  | int {i : Int} : i.natAbs ≤ 10 ^ 30 + m → FinD m (.int i)
  | str {x : Str} : x.length ≤ 40 + m → (∀ c ∈ tl x, c < 128) → FinD m (.str x)
  | lst {ds : List PyData} : (∀ d ∈ ds, FinD m d) → FinD m (.list ds)
  | tup {ds : List PyData} : (∀ d ∈ ds, FinD m d) → FinD m (.tuple ds)
theorem FinD.up {m k : Nat} (h : m ≤ k) {d : PyData} (f : FinD m d) : FinD k d := by
  induction f with
  | non => exact .non
  | bl b => exact .bl b
  | int z => exact .int (by omega)
  | str z a => exact .str (by omega) a
  | lst _ ih => exact .lst ih
  | tup _ ih => exact .tup ih
/-- a thing made of one: not much greater -/
structure Gr (m : Nat) (d e : PyData) : Prop where
  fin : FinD (m + 1) e
  dep : e.depth ≤ d.depth + 2
  wt : wtD e ≤ 2 * wtD d + 10
mutual
/-- what is written in the text of a program -/
def okC : PyData → Bool
  | .list xs => okCs xs
  | .tuple xs => okCs xs
  | .none => true
  | .bool _ => true
  | .int i => decide (i.natAbs ≤ 10 ^ 30)
  | .str x => decide (x.length ≤ 40) && x.cps.toList.all fun c => decide (c < 128)
  | .dict _ => false
def okCs : List PyData → Bool
  | [] => true
  | x :: xs => okC x && okCs xs
end
mutual
theorem okC_fin (m : Nat) : ∀ d : PyData, okC d = true → FinD m d
  | .none, _ => .non
  | .bool b, _ => .bl b
  | .int i, h => .int (by
      have := of_decide_eq_true (show decide (i.natAbs ≤ 10 ^ 30) = true from h)
      omega)
  | .str x, h => by
    have h2 : (decide (x.length ≤ 40) && x.cps.toList.all fun c => decide (c < 128)) = true := h
    rw [Bool.and_eq_true] at h2
    exact .str (by have := of_decide_eq_true h2.1; omega) fun c hc => of_decide_eq_true (List.all_eq_true.mp h2.2 c hc)
  | .list xs, h => .lst (okCs_fin m xs h)
  | .tuple xs, h => .tup (okCs_fin m xs h)
  | .dict _, h => by cases h
theorem okCs_fin (m : Nat) : ∀ ds : List PyData, okCs ds = true → ∀ d ∈ ds, FinD m d
  | [], _ => fun d hd => by cases hd
  | x :: xs, h => by
    have h2 : (okC x && okCs xs) = true := h
    rw [Bool.and_eq_true] at h2
    have h3 := okC_fin m x h2.1
    have h4 := okCs_fin m xs h2.2
    intro d hd
    rcases List.mem_cons.mp hd with e | hd
    · rw [e]
      exact h3
    · exact h4 d hd
end
def okG (d : PyData) : Bool := okC d && decide (d.depth ≤ 2) && decide (wtD d ≤ 8)
theorem okG_gr {m : Nat} {d e : PyData} (h : okG e = true) : Gr m d e := by
  unfold okG at h
  rw [Bool.and_eq_true, Bool.and_eq_true] at h
  exact ⟨okC_fin _ _ h.1.1, by have := of_decide_eq_true h.1.2; omega, by have := of_decide_eq_true h.2; omega⟩
theorem dep_all {n : Nat} : ∀ {ds : List PyData}, (∀ d ∈ ds, d.depth ≤ n) → PyData.depthAll ds ≤ n
  | [], _ => Nat.zero_le _
  | x :: xs, h => by
    rw [PyData.depthAll]
    exact Nat.max_le.mpr ⟨h x (List.mem_cons_self ..), dep_all fun d hd => h d (List.mem_cons_of_mem _ hd)⟩
theorem dep_mem : ∀ {ds : List PyData} {d : PyData}, d ∈ ds → d.depth ≤ PyData.depthAll ds
  | x :: xs, d, h => by
    rw [PyData.depthAll]
    rcases List.mem_cons.mp h with rfl | h
    · exact Nat.le_max_left _ _
    · exact Nat.le_trans (dep_mem h) (Nat.le_max_right _ _)
theorem gr_tup {m : Nat} {d : PyData} {es : List PyData} (h : ∀ e ∈ es, FinD (m + 1) e ∧ e.depth ≤ d.depth + 1) (w : wtsD es + 1 ≤ 2 * wtD d + 10) : Gr m d (.tuple es) :=
  ⟨.tup fun e he => (h e he).1, by rw [PyData.depth]; have := dep_all fun e he => (h e he).2; omega, by rw [wtD]; exact w⟩
theorem gr_lst {m : Nat} {d : PyData} {es : List PyData} (h : ∀ e ∈ es, FinD (m + 1) e ∧ e.depth ≤ d.depth + 1) (w : wtsD es + 1 ≤ 2 * wtD d + 10) : Gr m d (.list es) :=
  ⟨.lst fun e he => (h e he).1, by rw [PyData.depth]; have := dep_all fun e he => (h e he).2; omega, by rw [wtD]; exact w⟩
/-- parts of a written kind, or the thing -/
theorem gr_part {m : Nat} {d e : PyData} (f : FinD m d) (h : okC e = true ∧ e.depth ≤ 1 ∨ e = d) : FinD (m + 1) e ∧ e.depth ≤ d.depth + 1 := by
  rcases h with ⟨h1, h2⟩ | rfl
  · exact ⟨okC_fin _ _ h1, by omega⟩
  · exact ⟨f.up (Nat.le_succ m), Nat.le_succ _⟩
theorem FinD.lay {m : Nat} {d : PyData} (f : FinD m d) : d.canLay0 = true := by
  have all : ∀ ds : List PyData, (∀ d ∈ ds, d.canLay0 = true) → PyData.canLayAll0 ds = true := by
    intro ds
    induction ds with
    | nil => exact fun _ => by simp [PyData.canLayAll0]
    | cons x xs ih =>
      intro h
      rw [PyData.canLayAll0, h x (List.mem_cons_self ..), ih fun d hd => h d (List.mem_cons_of_mem _ hd)]
      rfl
  induction f with
  | non => simp [PyData.canLay0]
  | bl b => simp [PyData.canLay0]
  | int z => simp [PyData.canLay0]
  | @str x z a =>
    rw [PyData.canLay0]
    show x.cps.all _ = true
    rw [← Array.all_toList, List.all_eq_true]
    exact fun c hc => decide_eq_true (Nat.lt_trans (a c hc) (by decide))
  | lst _ ih => rw [PyData.canLay0]; exact all _ ih
  | tup _ ih => rw [PyData.canLay0]; exact all _ ih
theorem FinD.able {m : Nat} (hm : m ≤ 10) {d : PyData} (f : FinD m d) : d.showable = true := by
  have all : ∀ ds : List PyData, (∀ d ∈ ds, d.showable = true) → PyData.showableAll ds = true := by
    intro ds
    induction ds with
    | nil => exact fun _ => by simp [PyData.showableAll]
    | cons x xs ih =>
      intro h
      rw [PyData.showableAll, h x (List.mem_cons_self ..), ih fun d hd => h d (List.mem_cons_of_mem _ hd)]
      rfl
  induction f with
  | non => simp [PyData.showable]
  | bl b => simp [PyData.showable]
  | @int i z =>
    rw [PyData.showable]
    refine decide_eq_true ?_
    by_cases h0 : i.natAbs = 0
    · rw [h0]; decide
    · exact Nat.log2_lt h0 |>.mpr (Nat.lt_of_le_of_lt z (Nat.lt_of_le_of_lt (Nat.add_le_add_left hm _) (by decide +kernel : 10 ^ 30 + 10 < 2 ^ 1920)))
  | str z a => simp [PyData.showable]
  | lst _ ih => rw [PyData.showable]; exact all _ ih
  | tup _ ih => rw [PyData.showable]; exact all _ ih
/-- the text of a number: few signs, figures -/
theorem int_text {m : Nat} (hm : m ≤ 10) {i : Int} (z : i.natAbs ≤ 10 ^ 30 + m) : ((toString i : String) : Str).length ≤ 40 ∧ ∀ c ∈ tl ((toString i : String) : Str), c < 128 := by
  refine ⟨?_, fun c hc => ?_⟩
  · rw [len_tl, show tl ((toString i : String) : Str) = _ from signs_ofString _, List.length_map, Int.toString_eq_repr, Int.repr_eq_if]
    have big : (Nat.toDigits 10 i.natAbs).length ≤ 31 := toDigits_len_pow (by decide) (by decide) (Nat.lt_of_le_of_lt z (Nat.lt_of_le_of_lt (Nat.add_le_add_left hm _) (by decide +kernel : 10 ^ 30 + 10 < 10 ^ 31)))
    split
    · rename_i h
      rw [Nat.toList_repr]
      rw [show i.toNat = i.natAbs by omega]
      omega
    · rw [String.toList_append, List.length_append, Nat.toList_repr]
      rw [show (-i).toNat = i.natAbs by omega]
      have : "-".toList.length = 1 := by decide
      omega
  · rw [show tl ((toString i : String) : Str) = _ from signs_ofString _, List.mem_map] at hc
    obtain ⟨ch, hch, rfl⟩ := hc
    rcases int_sign i ch hch with h | h
    · have := digit_range h
      omega
    · rw [h]
      decide
theorem FinD.shown {m : Nat} (hm : m ≤ 10) {d : PyData} (f : FinD m d) : d.shown.length + 5 ≤ 600 * wtD d := by
  have all : ∀ ds : List PyData, (∀ d ∈ ds, d.shown.length + 5 ≤ 600 * wtD d) → (ds.map fun d => d.shown.length).sum + 5 * ds.length ≤ 600 * wtsD ds := by
    intro ds
    induction ds with
    | nil => exact fun _ => Nat.le_refl _
    | cons x xs ih =>
      intro h
      have h1 := h x (List.mem_cons_self ..)
      have h2 := ih fun d hd => h d (List.mem_cons_of_mem _ hd)
      rw [List.map_cons, List.sum_cons, List.length_cons, wtsD]
      omega
  induction f with
  | non => rw [PyData.shown, wtD]; decide +kernel
  | bl b => rw [PyData.shown, wtD]; cases b <;> decide +kernel
  | @int i z =>
    rw [PyData.shown, wtD]
    have := (int_text hm z).1
    omega
  | @str x z a =>
    have := shown_str (x := x) fun c hc => Nat.lt_trans (a c hc) (by decide)
    rw [wtD]
    omega
  | @lst ds _ ih =>
    have h1 := all _ ih
    have h2 := listText_len_le (PyData.shownAll ds)
    rw [shownAll_map, List.map_map, List.length_map] at h2
    have h3 : ((ds.map PyData.shown).map (·.length)).sum = (ds.map fun d => d.shown.length).sum := by rw [List.map_map]; rfl
    rw [PyData.shown, shownAll_map, wtD]
    have h4 : (List.map ((fun x => Str.length x) ∘ PyData.shown) ds).sum = (ds.map fun d => d.shown.length).sum := rfl
    omega
  | @tup ds _ ih =>
    have h1 := all _ ih
    have h2 := shown_tup ds
    rw [wtD]
    omega
theorem FinD.small {m : Nat} (hm : m ≤ 10) {d : PyData} (f : FinD m d) : wtD d ≤ 1000 → Small d := by
  induction f with
  | non => exact fun _ => .non
  | bl b => exact fun _ => .bl b
  | int z => exact fun _ => .int _
  | str z a => exact fun _ => .str (by omega)
  | @lst ds _ ih =>
    intro h
    rw [wtD] at h
    have h2 := wts_len ds
    exact .lst (by omega) fun d hd => ih d hd (by have := wts_mem hd; omega)
  | @tup ds _ ih =>
    intro h
    rw [wtD] at h
    have h2 := wts_len ds
    exact .tup (by omega) fun d hd => ih d hd (by have := wts_mem hd; omega)
theorem FinD.shaped {m : Nat} {d : PyData} (f : FinD m d) (h : d.depth ≤ 64) : SeqAt.shaped d = true := by
  unfold SeqAt.shaped
  rw [f.lay, decide_eq_true h]
  rfl
theorem FinD.show {m : Nat} (hm : m ≤ 10) {d : PyData} (f : FinD m d) (h : d.depth ≤ 64) (w : wtD d ≤ 1000) : d.showable = true ∧ d.hasDict = false ∧ d.depth ≤ 64 ∧ d.shown.length ≤ sizeLine :=
  ⟨f.able hm, PyData.hasDict_of_canLay _ f.lay, h, by
    have h1 := f.shown hm
    have big : sizeLine = 16777216 := sizeLine_eq
    omega⟩
/-- great letters -/
theorem upper_fin : ∀ (l : List Nat), (∀ c ∈ l, c < 128) → (Txt.upper ⟨l.toArray⟩).length = l.length ∧ ∀ c ∈ tl (Txt.upper ⟨l.toArray⟩), c < 128
  | [], _ => ⟨rfl, fun c hc => by cases hc⟩
  | c :: l, h => by
    obtain ⟨h1, h2⟩ := upper_fin l fun d hd => h d (List.mem_cons_of_mem _ hd)
    have hc := h c (List.mem_cons_self ..)
    have e : (⟨(c :: l).toArray⟩ : Str) = (⟨#[c]⟩ : Str) ++ ⟨l.toArray⟩ := Str.ext' (by
      rw [Str.cps_append]
      simp)
    rw [e, PySem.W.KOpn.upper_app, PySem.W.KOpn.upper_one hc, str_len_append]
    refine ⟨by rw [h1, List.length_cons]; show 1 + l.length = _; omega, fun d hd => ?_⟩
    have e2 : tl ((⟨#[if 97 ≤ c ∧ c ≤ 122 then c - 32 else c]⟩ : Str) ++ Txt.upper ⟨l.toArray⟩) = (if 97 ≤ c ∧ c ≤ 122 then c - 32 else c) :: tl (Txt.upper ⟨l.toArray⟩) := by
      show (((⟨#[if 97 ≤ c ∧ c ≤ 122 then c - 32 else c]⟩ : Str) ++ Txt.upper ⟨l.toArray⟩).cps).toList = _
      rw [Str.cps_append, Array.toList_append]
      rfl
    rw [e2] at hd
    rcases List.mem_cons.mp hd with rfl | hd
    · split <;> omega
    · exact h2 d hd
end V


set_option Elab.async false
set_option linter.all false
set_option maxRecDepth 100000
set_option maxHeartbeats 4000000
/-! ### tuple[::-1], list(text), tuple(text), truths and numbers -/
namespace V
open PySem PySem.Spec PyProof.Rows L2 Evl
section
variable {X : Cx}
/-- + and - of a number or a truth and a number -/
def numOf : V → Option Int
  | .int i => some i
  | .bl b => some (if b = true then 1 else 0)
  | _ => none
def rNum (g : Int → Int → Int) : R2 := fun x y H Q => ∃ i j, numOf x = some i ∧ y = .int j ∧ Q (.int (g i j)) H
theorem op_addN : OpR X (binaryOp .Add) (rNum fun i j => i + j) := by
  intro pins s σ H x y v u Q I rx ry h
  obtain ⟨i, j, hx, rfl, q⟩ := h
  obtain ⟨t, rfl⟩ := ry
  cases x with
  | int a =>
    cases hx
    obtain ⟨t2, rfl⟩ := rx
    exact add_int ⟨.int (i + j), H, I.tok _, ⟨_, rfl⟩, q⟩
  | bl b =>
    cases hx
    cases rx
    exact PySem.IntBool.add_bool_int ⟨.int _, H, I.tok _, ⟨_, rfl⟩, q⟩
  | _ => cases hx
theorem op_subN : OpR X (binaryOp .Sub) (rNum fun i j => i - j) := by
  intro pins s σ H x y v u Q I rx ry h
  obtain ⟨i, j, hx, rfl, q⟩ := h
  obtain ⟨t, rfl⟩ := ry
  cases x with
  | int a =>
    cases hx
    obtain ⟨t2, rfl⟩ := rx
    exact sub_int ⟨.int (i - j), H, I.tok _, ⟨_, rfl⟩, q⟩
  | bl b =>
    cases hx
    cases rx
    exact PySem.IntBool.sub_bool_int ⟨.int _, H, I.tok _, ⟨_, rfl⟩, q⟩
  | _ => cases hx
/-- str(number), str(truth) -/
def rStrN : List V → Hp → VK → Prop := fun xs H Q => (∃ i : Int, xs = [.int i] ∧ i.natAbs.log2 < 1920 ∧ Q (.str (toString i)) H) ∨ ∃ b : Bool, xs = [.bl b] ∧ Q (.str (if b = true then "True" else "False")) H
theorem call_strN : CallR X (.type "str") rStrN := by
  intro pins s σ H xs us Q I r h
  rcases h with ⟨i, rfl, hz, q⟩ | ⟨b, rfl, q⟩
  · exact call_str_int pins s σ H _ us Q I r ⟨i, rfl, hz, q⟩
  · obtain ⟨u, rfl, r1⟩ := vals1 r
    cases r1
    exact PySem.P.str_of_bool ⟨.str _, H, I.tok _, ⟨_, rfl⟩, q⟩
/-- the signs of a text -/
def sgV (x : Str) : List V := x.cps.toList.map fun c => .str ⟨#[c]⟩
theorem sg_vals : ∀ (l : List Nat) (us : List Value), us.length = l.length → (∀ (j : Nat) (v : Value), us[j]? = some v → ∃ c u, l[j]? = some c ∧ v = .str ⟨#[c]⟩ u) → Vals (l.map fun c => V.str ⟨#[c]⟩) us
  | [], [], _, _ => .nil
  | c :: l, u :: us, e, h => by
    obtain ⟨c2, t, h1, h2⟩ := h 0 u rfl
    cases h1
    subst h2
    exact .cons ⟨t, rfl⟩ (sg_vals l us (Nat.succ.inj e) fun j v hj => h (j + 1) v hj)
  | [], _ :: _, e, _ => by cases e
  | _ :: _, [], e, _ => by cases e
theorem sg_items {x : Str} {acc : Array Value} (h : ItemsOf (SignAt x) acc x.cps.size) : Vals (sgV x) acc.toList := by
  refine sg_vals _ _ (by rw [Array.length_toList, Array.length_toList]; exact h.1) fun j v hj => ?_
  obtain ⟨c, u, h1, h2⟩ := h.2 j v (by rw [← Array.getElem?_toList]; exact hj)
  exact ⟨c, u, by rw [Array.getElem?_toList]; exact h1, h2⟩
theorem sg_len (x : Str) : (sgV x).length = x.length := by
  unfold sgV
  rw [List.length_map, Array.length_toList]
  rfl
def rLstS : List V → Hp → VK → Prop := fun xs H Q => ∃ x : Str, xs = [.str x] ∧ x.length ≤ sizeLine ∧ ∀ l, H l = none → Q (.ref l) (upd H l (.lst (sgV x)))
def rTupS : List V → Hp → VK → Prop := fun xs H Q => ∃ x : Str, xs = [.str x] ∧ x.length ≤ sizeLine ∧ ∀ l, H l = none → Q (.ref l) (upd H l (.tup (sgV x)))
theorem call_lstS (hc : X.calm = true) : CallR X (.type "list") rLstS := by
  intro pins s σ H xs us Q I r h
  obtain ⟨x, rfl, hz, q⟩ := h
  obtain ⟨u, rfl, t, rfl⟩ := vals1 r
  refine PySem.call_list_str (I.ok.hd hc) x t (fun h' tk acc c' k e ha => ?_) hz
  have rv := sg_items ha
  refine ⟨.ref s.heap.objs.size, _, I.laid (t' := tk) (o := .lst (sgV x)) k (Nat.le_refl _) ?_, rfl, q _ I.fresh⟩
  exact ⟨by rw [sg_len]; exact hz, acc.toList, c', rv, by rw [Array.toArray_toList]; exact e⟩
theorem call_tupS (hc : X.calm = true) : CallR X (.type "tuple") rTupS := by
  intro pins s σ H xs us Q I r h
  obtain ⟨x, rfl, hz, q⟩ := h
  obtain ⟨u, rfl, t, rfl⟩ := vals1 r
  refine PySem.call_tuple_str (I.ok.hd hc) x t (fun h' tk acc k ha => ?_) hz
  have rv := sg_items ha
  have I1 : L2.Inv X pins σ H { s with heap := h', toks := tk } := I.kept (t' := tk) k
  refine ⟨.ref h'.objs.size, _, I1.laid (t' := tk) (o := .tup (sgV x)) (fun _ _ z => Heap.get?_push_of_some _ z) (Nat.le_refl _) ?_, rfl, q _ I1.fresh⟩
  refine ⟨by rw [sg_len]; exact hz, acc.toList, rv, ?_⟩
  rw [Array.toArray_toList]
  exact IsTup.new _ _
end
/-- a if t else b, as a test -/
def tIfT (t ta tb : TT) : TT := fun σ H Q => t σ H fun c H1 => if c = true then ta σ H1 Q else tb σ H1 Q
theorem pt_ifExp {X : Cx} {c a b : Expr} {tA ta tb : TT} {pos : Pos} (hc : PT X c tA) (ha : PT X a ta) (hb : PT X b tb) : PT X (.IfExp c a b pos) (tIfT tA ta tb) := by
  refine ⟨fun pins s σ H Q I h => ?_⟩
  refine isTrue_IfExp (thn (hc.run pins s σ H _ I h) fun d s1 ⟨H1, I1, q1⟩ => ?_)
  cases d with
  | true => exact ha.run pins s1 σ H1 Q I1 q1
  | false => exact hb.run pins s1 σ H1 Q I1 q1
/-! ### t[::-1] -/
section
variable {prog : Program} {w : World} {A : Around} {E : Value → Shared → Prop} {s : Shared}
theorem fm_congr {α β : Type} {f g : α → Option β} : ∀ {l : List α}, (∀ x ∈ l, f x = g x) → l.filterMap f = l.filterMap g
  | [], _ => rfl
  | x :: l, h => by
    rw [List.filterMap_cons, List.filterMap_cons, h x (List.mem_cons_self ..), fm_congr fun y hy => h y (List.mem_cons_of_mem _ hy)]
theorem rev_pick (xs : Array Value) : ((List.range xs.size).filterMap fun (m : Nat) => xs[(((xs.size : Int) - 1) + (m : Int) * (-1)).toNat]?).toArray = xs.toList.reverse.toArray := by
  refine congrArg List.toArray ?_
  refine List.ext_getElem? fun i => ?_
  have e : ∀ (k n : Nat), k ≤ n → (((List.range k).filterMap fun (m : Nat) => xs[(((xs.size : Int) - 1) + (m : Int) * (-1)).toNat]?)) = (List.range k).filterMap fun (m : Nat) => xs[xs.size - 1 - m]? := by
    intro k n _
    refine fm_congr fun m hm => ?_
    rw [show ((((xs.size : Int) - 1) + (m : Int) * (-1)).toNat) = xs.size - 1 - m by omega]
  rw [e xs.size xs.size (Nat.le_refl _)]
  have all : ∀ k, k ≤ xs.size → (List.range k).filterMap (fun (m : Nat) => xs[xs.size - 1 - m]?) = (List.range k).map fun m => xs.getD (xs.size - 1 - m) .none := by
    intro k hk
    rw [← List.filterMap_eq_map]
    refine fm_congr fun m hm => ?_
    have : m < k := List.mem_range.mp hm
    have h4 : xs.size - 1 - m < xs.size := by omega
    rw [Array.getElem?_eq_getElem h4]
    show _ = some (xs.getD (xs.size - 1 - m) .none)
    rw [Array.getD_eq_getD_getElem?, Array.getElem?_eq_getElem h4]
    rfl
  rw [all _ (Nat.le_refl _), List.getElem?_map]
  by_cases h : i < xs.size
  · have h2 : i < xs.toList.length := by rw [Array.length_toList]; exact h
    rw [List.getElem?_range h, List.getElem?_reverse h2, Array.length_toList]
    have h3 : xs.size - 1 - i < xs.toList.length := by rw [Array.length_toList]; omega
    rw [List.getElem?_eq_getElem h3]
    have h4 : xs.size - 1 - i < xs.size := by omega
    show some (xs.getD (xs.size - 1 - i) .none) = _
    rw [Array.getD_eq_getD_getElem?, Array.getElem?_eq_getElem h4]
    rfl
  · rw [List.getElem?_eq_none (by rw [List.length_range]; omega), List.getElem?_eq_none (by rw [List.length_reverse, Array.length_toList]; omega)]
    rfl
theorem rev_applied {sl : Addr} {u : Tok} {n : Nat} {Q : Int × Int × Nat → Shared → Prop} (hs : s.heap.IsSliceOf sl .none .none (.int (-1) u)) (h : Q ((n : Int) - 1, -1, n) s) :
    wpAny (model prog w) A (Builtin.Slice.sliceApplied (.ref sl) (pure (n : Int))) Q E s := by
  obtain ⟨os, hos, hcs, hds⟩ := id hs
  unfold Builtin.Slice.sliceApplied Builtin.Slice.sliceFields
  refine wpAny_bind (wpAny_bind (wpAny_field hos hds (x := .none) rfl (wpAny_bind (wpAny_field hos hds (x := .none) rfl (wpAny_bind (wpAny_field hos hds (x := .int (-1) u) rfl (wpAny_pure ?_)))))))
  refine wpAny_bind (HT.slicePart_ (.int (-1) u) ?_)
  show wpAny _ _ (if ((-1 : Int) == 0) = true then _ else _) _ _ s
  rw [if_neg (by decide)]
  refine wpAny_bind (HT.slicePart_ .none (wpAny_bind (HT.slicePart_ .none (wpAny_bind (wpAny_pure ?_)))))
  show wpAny _ _ (match Builtin.Slice.sliceAdjust none none (-1) (n : Int) with | (lo, hi) => pure (lo, (-1 : Int), Builtin.Slice.slicePlaces lo hi (-1))) _ _ s
  have e1 : Builtin.Slice.sliceAdjust none none (-1) (n : Int) = ((n : Int) - 1, -1) := by
    unfold Builtin.Slice.sliceAdjust
    rfl
  have e2 : Builtin.Slice.slicePlaces ((n : Int) - 1) (-1) (-1) = n := by
    unfold Builtin.Slice.slicePlaces
    simp
    omega
  rw [e1]
  show wpAny _ _ (pure ((n : Int) - 1, (-1 : Int), Builtin.Slice.slicePlaces ((n : Int) - 1) (-1) (-1))) _ _ s
  rw [e2]
  exact wpAny_pure h
theorem rev_tuple {t sl : Addr} {items : Array Value} {u : Tok} {Q : Value → Shared → Prop} (ht : IsTup s.heap t items) (hs : s.heap.IsSliceOf sl .none .none (.int (-1) u))
    (h : Q (.ref s.heap.objs.size) { s with heap := s.heap.push { cls := .type "tuple", data := .seq items.toList.reverse.toArray } }) (hsz : items.size ≤ sizeLine) : wpAny (model prog w) A (getItem (.ref t) (.ref sl)) Q E s := by
  have htake : sizeOk (.seq items.toList.reverse.toArray) := by
    show items.toList.reverse.toArray.size ≤ sizeLine
    rw [List.size_toArray, List.length_reverse, Array.length_toList]
    omega
  obtain ⟨os, hos, hcs, hds⟩ := id hs
  have hTs : s.TypeIs (.ref sl) "slice" := ⟨os, hos, hcs⟩
  unfold getItem
  try with_reducible refine wpAny_holding ?_
  first | refine wpAny_bind (wpAny_pure ?_) | skip
  refine wpAny_bind (wpAny_sequenceKey ht.typeIs (by decide) ?_)
  refine wpAny_bind (wpAny_callSpecial?_slot (name := Str.ofString "__getitem__") ht.typeIs PyProof.Rows.slot_tuple_getitem
    (wpAny_call_entry PyProof.Rows.slot_tuple_getitem ht.typeIs PyProof.Rows.entry_tuple_getitem ?_ (PyProof.Rows.args_tuple_getitem _ _)))
  show wpAny _ _ (Builtin.Tuple.tupleItemsOf (.ref t) >>= _) _ _ s
  refine wpAny_bind (PyProof.Rows.tupleItemsOf_ ht ?_)
  refine wpAny_bind (wpAny_typeOf hTs ?_)
  rw [if_pos (by decide)]
  refine wpAny_bind (rev_applied hs ?_)
  have hno : ¬ ((((items.size : Int) - 1) == 0 && (-1 : Int) == 1 && items.size == items.size) = true) := by
    rw [show ((-1 : Int) == 1) = false from rfl]
    simp
  show wpAny _ _ (if (((items.size : Int) - 1) == 0 && (-1 : Int) == 1 && items.size == items.size) = true then _ else _) _ _ s
  rw [if_neg hno, rev_pick]
  first
    | exact wpAny_bind (m := Builtin.Tuple.tupleExact _) (wpAny_newObj_type (wpAny_pure ⟨_, rfl, wpAny_pure h⟩) htake)
    | exact wpAny_bind (m := Builtin.Tuple.tupleExact _) (wpAny_newObj_type (wpAny_bind (wpAny_pure (wpAny_pure ⟨_, rfl, wpAny_pure h⟩))) htake)
    | exact wpAny_bind (wpAny_bind (m := Builtin.Tuple.tupleExact _) (wpAny_newObj_type (wpAny_pure (wpAny_pure ⟨_, rfl, wpAny_pure h⟩)) htake))
    | exact wpAny_bind (wpAny_bind (m := Builtin.Tuple.tupleExact _) (wpAny_newObj_type (wpAny_pure ⟨_, rfl, wpAny_pure h⟩) htake))
end
theorem vals_rev : ∀ {xs : List V} {us : List Value}, Vals xs us → Vals xs.reverse us.reverse
  | _, _, .nil => .nil
  | _, _, .cons r t => by
    rw [List.reverse_cons, List.reverse_cons]
    exact (vals_rev t).append (.cons r .nil)
def tRevT (K : PySem.W.Frag) (te : TE) : TE := fun σ H Q => te σ H fun x H1 => ∃ a xs, x = .ref a ∧ SqT K H1 a xs ∧ ∀ p, H1 p = none → Q (.ref p) (upd H1 p (.tup xs.reverse))
theorem pe_revT {X : Cx} {e : Expr} {te : TE} {k : Nat} {p1 p2 p3 pos : Pos} (he : PE X e te) : PE X (.Subscript e (.Slice none none (some (.UnaryOp .USub (.Constant (.int 1) k p1) p2)) p3) pos) (tRevT X.K te) := by
  refine ⟨fun pins s σ H Q I h => ?_⟩
  refine Subscript_ (thn (he.run pins s σ H _ I h) fun v s1 ⟨x, H1, I1, r1, q1⟩ => ?_)
  obtain ⟨a, xs, ex, hz, q⟩ := q1
  subst ex
  cases r1
  have hst : PO X (some (.UnaryOp .USub (.Constant (.int 1) k p1) p2)) (tPart (tUn (rU fun i => .int (-i)) (tC (.int 1)))) := po_some (pe_un un_neg pe_int)
  refine wpAny_Slice (thn (po_none.run pins s1 σ H1 (fun o H2 => o = none ∧ H2 = H1) I1 ⟨rfl, rfl⟩) fun vl s2 ⟨l, H2, I2, pl, el, e2⟩ => ?_)
  subst el e2
  refine thn (po_none.run pins s2 σ H2 (fun o H3 => o = none ∧ H3 = H2) I2 ⟨rfl, rfl⟩) fun vu s3 ⟨u, H3, I3, pu, eu, e3⟩ => ?_
  subst eu e3
  refine thn (hst.run pins s3 σ H3 (fun o H4 => o = some (-1) ∧ H4 = H3) I3 ⟨1, rfl, -1, rfl, rfl, rfl⟩) fun vs s4 ⟨o, H4, I4, ps, eo, e4⟩ => ?_
  subst eo e4
  have I5 : L2.Inv X pins σ H4 { s4 with heap := s4.heap.push { cls := .type "slice", data := .fields #[vl, vu, vs] } } := I4.kept (t' := s4.toks) fun b ob q => Heap.get?_push_of_some _ q
  cases pl
  cases pu
  cases ps with
  | int i tt =>
  obtain ⟨its, r, ht, hsz⟩ := I5.tuple hz
  show wpAny (model X.prog X.w) X.A (subscriptTail e (.Slice none none (some (.UnaryOp .USub (.Constant (.int 1) k p1) p2)) p3) (.ref a) (.ref s4.heap.objs.size)) (EP X pins σ Q) X.xe { s4 with heap := s4.heap.push { cls := .type "slice", data := .fields #[.none, .none, .int (-1) tt] } }
  refine tail_any (T := "tuple") (ops := [.ref a, .ref s4.heap.objs.size]) ht.typeIs (PyProof.Rows.slot_tuple_getitem.lookup) ?_ (by with_unfolding_all rfl)
  refine rev_tuple (u := tt) ht ⟨_, Heap.get?_push_size _ rfl, rfl, rfl⟩ ?_ (by rw [List.size_toArray, ← r.length]; exact hsz)
  refine ⟨.ref _, _, I5.laid (t' := s4.toks) (o := .tup xs.reverse) (fun b ob q => Heap.get?_push_of_some _ q) (Nat.le_refl _) ?_, rfl, q _ I5.fresh⟩
  exact ⟨by rw [List.length_reverse]; exact hsz, its.reverse, vals_rev r, IsTup.new _ _⟩
end V


set_option Elab.async false
set_option linter.all false
set_option maxRecDepth 100000
set_option maxHeartbeats 400000
namespace V
open PySem PySem.Spec PyProof.Rows L2 Evl TL NumText
theorem y_run {te : TE} {σ : L2.St} {H : Hp} {R : Hp → V → Prop} {Q : VK} (h : Yl te σ H R) (k : ∀ H2 v, Ex H H2 → R H2 v → Q v H2) : te σ H Q := h H (Ex.refl H) Q k
theorem y_set {te : TE} {i : Nat} {D : Ends} {σ : L2.St} {H : Hp} {R : Hp → V → Prop} (h : Yl te σ H R) (k : ∀ H2 v, Ex H H2 → R H2 v → D.nx (σ.set i (some v)) H2) : tAsg te (gName i) D σ H := h H (Ex.refl H) _ k
theorem y_lst {A : TA} {σ : L2.St} {H : Hp} {R : Hp → List V → Prop} {Q : VK} (h : Ya A σ H R) (k : ∀ H2 vs, Ex H H2 → R H2 vs → vs.length ≤ sizeLine ∧ ∀ p, H2 p = none → Q (.ref p) (upd H2 p (.lst vs))) : tLst A σ H Q := h H (Ex.refl H) _ k
theorem yl_callV {σ : L2.St} {H : Hp} {te : TE} {ta : TA} {m : Str} {ts : List Tm} (hm : Yl te σ H (IsV (.str m))) (h : Ya ta σ H (TmsR ts)) (k : ts.length ≤ 4 := by exact Nat.le_of_ble_eq_true rfl) :
    Yl (tTup (tCons (tC (.str "call")) (tCons te (tCons (tTup ta) tNil)))) σ H (TmR (.node (.call m) ts)) := fun H1 e Q q =>
  hm H1 e _ fun H2 v e2 r => by
    have r' : v = .str m := r
    subst r'
    exact h H2 (e.trans e2) _ fun H3 vs e3 r3 => ⟨by have := tms_len r3 k; omega, fun p hp => ⟨sz 3, fun p2 hp2 => by
      have f1 := Ex.new (o := .tup vs) hp
      have f2 := Ex.new (o := .tup [.str "call", .str m, .ref p]) hp2
      exact q _ _ (e2.trans (e3.trans (f1.trans f2))) (.call upd_same (f2 p _ upd_same) (TmsAt.ex r3 (f1.trans f2)))⟩⟩
theorem seqs {t u : TS} {A B : L2.St → Hp → Prop} {D : Ends} {σ : L2.St} {H : Hp} (h1 : Hs t A B) (a : A σ H) (k : ∀ σ' H', B σ' H' → u D σ' H') : tSeq t u D σ H := h1 { D with nx := u D } σ H a k
theorem asgE {te : TE} {g : TG} {D : Ends} {σ : L2.St} {H : Hp} (h : te σ H fun x H1 => g x σ H1 D.nx) : tAsg te g D σ H := h
end V


set_option Elab.async false
set_option linter.all false
set_option maxRecDepth 100000
set_option maxHeartbeats 4000000
namespace V
open PySem PySem.Spec PyProof.Rows L2 Evl TL NumText
/-! ### data that does not reach the box -/
def wo (b : Addr) (H : Hp) : Hp := fun a => if a = b then none else H a
section
variable {K : PySem.W.Frag} {b : Addr} {H H' : Hp}
theorem wo_ne {a : Addr} (h : a ≠ b) : wo b H a = H a := if_neg h
theorem wo_le : Ex (wo b H) H := fun a o h => by
  unfold wo at h
  split at h
  · cases h
  · exact h
theorem wo_but (e : But b H H') : Ex (wo b H) (wo b H') := fun a o h => by
  unfold wo at h ⊢
  split at h
  · cases h
  · rename_i n
    rw [if_neg n]
    exact e a o n h
theorem wo_ex (e : Ex H H') : Ex (wo b H) (wo b H') := wo_but (But.of e)
theorem wo_upd {p : Addr} {o : HO} (h : p ≠ b) : wo b (upd H p o) p = some o := by
  rw [wo_ne h, upd_same]
/-- a term lies there without the box -/
theorem TmAt.wo {xs : List V} {v : V} {t : Tm} (hb : H b = some (.lst xs)) (h : TmAt H v t) : TmAt (wo b H) v t := h.tu fun c ys hc => by
  rw [wo_ne]
  · exact hc
  · intro z
    rw [z, hb] at hc
    cases hc
end
/-- its data -/
def DR (K : PySem.W.Frag) (b : Addr) (d : PyData) : Hp → V → Prop := fun H v => H b ≠ none ∧ Dp K (wo b H) v d
def DRs (K : PySem.W.Frag) (b : Addr) (ds : List PyData) : Hp → List V → Prop := fun H vs => H b ≠ none ∧ DpAll K (wo b H) vs ds
theorem there {b : Addr} {H H' : Hp} (h : H b ≠ none) (e : Ex H H') : H' b ≠ none := by
  cases z : H b with
  | none => exact absurd z h
  | some o =>
    rw [e b o z]
    exact fun y => by cases y
theorem ne_fresh {b p : Addr} {H : Hp} (h : H b ≠ none) (hp : H p = none) : p ≠ b := fun z => h (by rw [← z]; exact hp)
section
variable {K : PySem.W.Frag} {b : Addr} {σ : L2.St} {H : Hp} {te : TE} {ta : TA} (hb : H b ≠ none)
theorem yd_c {v : V} {d : PyData} (hb : H b ≠ none) (h : ∀ H, Dp K H v d) : Yl (tC v) σ H (DR K b d) := fun H1 e Q q => q H1 v (Ex.refl H1) ⟨there hb e, h _⟩
theorem yd_int (i : Int) (hb : H b ≠ none) : Yl (tC (.int i)) σ H (DR K b (.int i)) := yd_c hb fun _ => .int i
theorem yd_str (x : Str) (hb : H b ≠ none) : Yl (tC (.str x)) σ H (DR K b (.str x)) := yd_c hb fun _ => .str x
theorem yd_bl (x : Bool) (hb : H b ≠ none) : Yl (tC (.bl x)) σ H (DR K b (.bool x)) := yd_c hb fun _ => .bl x
theorem yd_non (hb : H b ≠ none) : Yl (tC .non) σ H (DR K b .none) := yd_c hb fun _ => .non
theorem yd_neg (hb : H b ≠ none) : Yl (tUn (rU fun i => .int (-i)) (tC (.int 1))) σ H (DR K b (.int (-1))) := fun H1 e Q q => ⟨1, rfl, q H1 _ (Ex.refl H1) ⟨there hb e, .int _⟩⟩
theorem yd_pow (hb : H b ≠ none) : Yl (tOp (rI CPow fun i j => .int (i ^ j.toNat)) (tC (.int 10)) (tC (.int 30))) σ H (DR K b (.int (10 ^ 30))) := fun H1 e Q q =>
  ⟨10, 30, rfl, rfl, ⟨by decide, by decide, by decide⟩, q H1 _ (Ex.refl H1) ⟨there hb e, .int _⟩⟩
theorem yd_var {i : Nat} {v : V} {d : PyData} (hb : H b ≠ none) (h : Dp K (wo b H) v d) (hs : σ[i]? = some (some v) := by rfl) : Yl (tVar i) σ H (DR K b d) := fun H1 e Q q => ⟨v, hs, q H1 v (Ex.refl H1) ⟨there hb e, dp_ex (wo_ex e) h⟩⟩
theorem ya_d0 (hb : H b ≠ none) : Ya tNil σ H (DRs K b []) := fun H1 e Q q => q H1 [] (Ex.refl H1) ⟨there hb e, .nil⟩
theorem ya_d {d : PyData} {ds : List PyData} (h : Yl te σ H (DR K b d)) (hs : Ya ta σ H (DRs K b ds)) : Ya (tCons te ta) σ H (DRs K b (d :: ds)) := fun H1 e Q q =>
  h H1 e _ fun H2 v e2 r => hs H2 (e.trans e2) _ fun H3 vs e3 rs => q H3 _ (e2.trans e3) ⟨rs.1, .cons (dp_ex (wo_ex e3) r.2) rs.2⟩
theorem yd_tup {ds : List PyData} (h : Ya ta σ H (DRs K b ds)) (hl : ds.length ≤ 1000) : Yl (tTup ta) σ H (DR K b (.tuple ds)) := fun H1 e Q q =>
  h H1 e _ fun H2 vs e2 r => ⟨sz _ (by rw [dps_len r.2]; exact hl), fun p hp => by
    have f := Ex.new (o := .tup vs) hp
    exact q _ _ (e2.trans f) ⟨there r.1 f, .tup (SqT.of (wo_upd (ne_fresh r.1 hp))) (dps_ex (wo_ex f) r.2)⟩⟩
theorem yd_lst {ds : List PyData} (h : Ya ta σ H (DRs K b ds)) (hl : ds.length ≤ 1000) : Yl (tLst ta) σ H (DR K b (.list ds)) := fun H1 e Q q =>
  h H1 e _ fun H2 vs e2 r => ⟨sz _ (by rw [dps_len r.2]; exact hl), fun p hp => by
    have f := Ex.new (o := .lst vs) hp
    exact q _ _ (e2.trans f) ⟨there r.1 f, .lst (SqL.of (wo_upd (ne_fresh r.1 hp))) (dps_ex (wo_ex f) r.2)⟩⟩
end
section
variable {K : PySem.W.Frag} {b : Addr} {H : Hp}
theorem dps_app : ∀ {xs ys : List V} {ds es : List PyData}, DpAll K H xs ds → DpAll K H ys es → DpAll K H (xs ++ ys) (ds ++ es)
  | _, _, _, _, .nil, k => k
  | _, _, _, _, .cons h hs, k => .cons h (dps_app hs k)
theorem dps_rev : ∀ {xs : List V} {ds : List PyData}, DpAll K H xs ds → DpAll K H xs.reverse ds.reverse
  | _, _, .nil => .nil
  | _, _, .cons h hs => by
    rw [List.reverse_cons, List.reverse_cons]
    exact dps_app (dps_rev hs) (.cons h .nil)
theorem dps_drop : ∀ {xs : List V} {ds : List PyData} (n : Nat), DpAll K H xs ds → DpAll K H (xs.drop n) (ds.drop n)
  | _, _, 0, h => h
  | _, _, _ + 1, .nil => .nil
  | _, _, n + 1, .cons _ hs => dps_drop n hs
theorem dps_take : ∀ {xs : List V} {ds : List PyData} (n : Nat), DpAll K H xs ds → DpAll K H (xs.take n) (ds.take n)
  | _, _, 0, _ => .nil
  | _, _, _ + 1, .nil => .nil
  | _, _, n + 1, .cons h hs => .cons h (dps_take n hs)
theorem dps_sg (x : Str) : DpAll K H (sgV x) (x.cps.toList.map fun c => .str ⟨#[c]⟩) := by
  unfold sgV
  generalize x.cps.toList = l
  induction l with
  | nil => exact .nil
  | cons c l ih => exact .cons (.str _) ih
end
/-- ds[lo:hi] of data -/
def cutD (ds : List PyData) (lo hi : Option Int) : List PyData := (ds.drop (HT.sIx ds.length 0 lo)).take (HT.sIx ds.length ds.length hi - HT.sIx ds.length 0 lo)
theorem dps_cut {K : PySem.W.Frag} {H : Hp} {xs : List V} {ds : List PyData} (h : DpAll K H xs ds) (lo hi : Option Int) : DpAll K H (cutV xs lo hi) (cutD ds lo hi) := by
  unfold cutV cutD
  rw [dps_len h]
  exact dps_take _ (dps_drop _ h)
section
variable {K : PySem.W.Frag} {b : Addr} {σ : L2.St} {H : Hp} {te tf : TE} {tl th : TO}
/-- t[lo:hi] of a tuple -/
theorem yd_cut {ds : List PyData} {lo hi : Option Int} (h : Yl te σ H (DR K b (.tuple ds))) (hl : ∀ H1, Ex H H1 → ∀ Q : Option Int → Hp → Prop, Q lo H1 → tl σ H1 Q) (hu : ∀ H1, Ex H H1 → ∀ Q : Option Int → Hp → Prop, Q hi H1 → th σ H1 Q) :
    Yl (tSl (rSlA K) te tl th) σ H (DR K b (.tuple (cutD ds lo hi))) := fun H1 e Q q => by
  refine h H1 e _ fun H2 v e2 r => hl H2 (e.trans e2) _ (hu H2 (e.trans e2) _ ?_)
  obtain ⟨r1, r2⟩ := r
  cases r2 with
  | @tup a xs _ ha hs =>
    have ll := dps_len hs
    refine ⟨a, xs, rfl, ex_t wo_le ha, fun z => ?_, fun _ p hp => ?_⟩
    · have ec : cutD ds lo hi = ds := by
        unfold cutD
        rw [← ll, z.1, z.2, ll, List.drop_zero]
        exact List.take_length
      rw [ec] at q
      exact q _ _ e2 ⟨r1, .tup ha hs⟩
    · have f := Ex.new (o := .tup (cutV xs lo hi)) hp
      exact q _ _ (e2.trans f) ⟨there r1 f, .tup (SqT.of (wo_upd (ne_fresh r1 hp))) (dps_cut (dps_ex (wo_ex f) hs) lo hi)⟩
/-- t + u of tuples -/
theorem yd_cat {ds es : List PyData} (h : Yl te σ H (DR K b (.tuple ds))) (k : Yl tf σ H (DR K b (.tuple es))) (hl : ds.length + es.length ≤ 1000) :
    Yl (tOp (rCatA K) te tf) σ H (DR K b (.tuple (ds ++ es))) := fun H1 e Q q => by
  refine h H1 e _ fun H2 v e2 r => k H2 (e.trans e2) _ fun H3 u e3 r3 => ?_
  obtain ⟨r1, r2⟩ := r
  obtain ⟨r4, r5⟩ := r3
  cases dp_ex (wo_ex e3) r2 with
  | @tup a xs _ ha hs =>
    cases r5 with
    | @tup c ys _ hc ht =>
      have l1 := dps_len hs
      have l2 := dps_len ht
      refine ⟨a, c, xs, ys, rfl, rfl, ex_t wo_le ha, ex_t wo_le hc, sz _ (by omega), fun z => ?_, fun _ z => ?_, fun _ _ p hp => ?_⟩
      · subst z
        cases hs
        exact q _ _ (e2.trans e3) ⟨r4, .tup hc ht⟩
      · subst z
        cases ht
        rw [List.append_nil] at q
        exact q _ _ (e2.trans e3) ⟨r4, .tup ha hs⟩
      · have f := Ex.new (o := .tup (xs ++ ys)) hp
        exact q _ _ (e2.trans (e3.trans f)) ⟨there r4 f, .tup (SqT.of (wo_upd (ne_fresh r4 hp))) (dps_ex (wo_ex f) (dps_app hs ht))⟩
theorem yd_revT {ds : List PyData} (h : Yl te σ H (DR K b (.tuple ds))) : Yl (tRevT K te) σ H (DR K b (.tuple ds.reverse)) := fun H1 e Q q => by
  refine h H1 e _ fun H2 v e2 r => ?_
  obtain ⟨r1, r2⟩ := r
  cases r2 with
  | @tup a xs _ ha hs =>
    refine ⟨a, xs, rfl, ex_t wo_le ha, fun p hp => ?_⟩
    have f := Ex.new (o := .tup xs.reverse) hp
    exact q _ _ (e2.trans f) ⟨there r1 f, .tup (SqT.of (wo_upd (ne_fresh r1 hp))) (dps_ex (wo_ex f) (dps_rev hs))⟩
theorem yd_list {ds : List PyData} (h : Yl te σ H (DR K b (.tuple ds))) :
    Yl (tCB (fun xs H Q => ∃ p ys, xs = [.ref p] ∧ (SqL K H p ys ∨ SqT K H p ys) ∧ ∀ l, H l = none → Q (.ref l) (upd H l (.lst ys))) (tCons te tNil)) σ H (DR K b (.list ds)) := fun H1 e Q q => by
  refine h H1 e _ fun H2 v e2 r => ?_
  obtain ⟨r1, r2⟩ := r
  cases r2 with
  | @tup a xs _ ha hs =>
    refine ⟨a, xs, rfl, .inr (ex_t wo_le ha), fun p hp => ?_⟩
    have f := Ex.new (o := .lst xs) hp
    exact q _ _ (e2.trans f) ⟨there r1 f, .lst (SqL.of (wo_upd (ne_fresh r1 hp))) (dps_ex (wo_ex f) hs)⟩
end
end V


set_option Elab.async false
set_option linter.all false
set_option maxRecDepth 100000
set_option maxHeartbeats 4000000
namespace V
open PySem PySem.Spec PyProof.Rows L2 Evl TL NumText
/-- l.index(x) within a comprehension: the frag is named -/
theorem pe_indexD {X : Cx} {K : PySem.W.Frag} {o e : Expr} {to : TE} {t : TA} {apos cpos : Pos} (hK : X.K = K) (hu : X.A.units + 65 < cLine) (ho : PE X o to) (ha : PA X [e] t)
    (hbase : attributeBase o "index" X.env (eval o X.env) = eval o X.env := by rfl)
    (hfew : ((backTo cpos (starEach [e] X.env)).all (fun x => !x.1) && (backToKw cpos (keywordEach [] X.env)).all (fun x => x.1.isSome)
      && decide (([e] : List Expr).length + ([] : List Keyword).length + (if ([] : List Keyword).isEmpty then 0 else 1) < 30)) = true := by rfl)
    (hline : (apos.endLine == cpos.line) = true := by rfl) (hs : starEach [e] X.env = (false, eval e X.env) :: starEach [] X.env := by rfl) (hplain : (backTo cpos (starEach [] X.env)).any (·.1) = false := by rfl) :
    PE X (.Call (.Attribute o "index" apos) [e] [] cpos) (tBM K "list" (rIndexD K) to t) := by
  subst hK
  exact pe_bm PySem.F.plainAttrs_list PySem.F.slot_list_index PySem.F.type_list_index (mt_indexD hu) ho ha hbase hfew hline hs hplain
/-! ### a number for each thing, the same just for alike ones -/
def metD (met : List PyData) : List PyData → List PyData
  | [] => met
  | d :: r => metD (if (met.any fun z => PyData.eqv z d) = true then met else met ++ [d]) r
theorem metD_add : ∀ (l met : List PyData) (d : PyData), metD met (l ++ [d]) = (if ((metD met l).any fun z => PyData.eqv z d) = true then metD met l else metD met l ++ [d])
  | [], met, d => rfl
  | x :: l, met, d => metD_add l _ d
theorem metD_sub : ∀ (l met : List PyData) (d : PyData), d ∈ met → d ∈ metD met l
  | [], _, _, h => h
  | x :: l, met, d, h => metD_sub l _ d (by
      split
      · exact h
      · exact List.mem_append.mpr (.inl h))
theorem metD_from : ∀ (l met : List PyData) (d : PyData), d ∈ metD met l → d ∈ met ∨ d ∈ l
  | [], _, _, h => .inl h
  | x :: l, met, d, h => by
    rcases metD_from l _ d h with h | h
    · split at h
      · exact .inl h
      · rcases List.mem_append.mp h with h | h
        · exact .inl h
        · exact .inr (by rw [List.mem_singleton.mp h]; exact List.mem_cons_self ..)
    · exact .inr (List.mem_cons_of_mem _ h)
theorem metD_len : ∀ (l met : List PyData), (metD met l).length ≤ met.length + l.length
  | [], met => Nat.le_refl _
  | x :: l, met => by
    have := metD_len l (if (met.any fun z => PyData.eqv z x) = true then met else met ++ [x])
    rw [List.length_cons]
    split at this
    · rename_i c
      rw [metD, if_pos c]
      omega
    · rename_i c
      rw [metD, if_neg c]
      rw [List.length_append] at this
      have e : [x].length = 1 := rfl
      omega
theorem metD_has (rf : ∀ d : PyData, d.canLay0 = true → PyData.eqv d d = true) : ∀ (l met : List PyData) (d : PyData), d.canLay0 = true → d ∈ l → ((metD met l).any fun z => PyData.eqv z d) = true
  | x :: l, met, d, hc, h => by
    rcases List.mem_cons.mp h with e | h
    · subst e
      rw [List.any_eq_true, metD]
      by_cases c : (met.any fun z => PyData.eqv z d) = true
      · rw [if_pos c]
        obtain ⟨z, hz, hz2⟩ := List.any_eq_true.mp c
        exact ⟨z, metD_sub l _ z hz, hz2⟩
      · rw [if_neg c]
        exact ⟨d, metD_sub l _ d (List.mem_append.mpr (.inr (List.mem_cons_self ..))), rf d hc⟩
    · rw [metD]
      exact metD_has rf l _ d hc h
def numOfD (met : List PyData) (d : PyData) : Nat := met.findIdx fun z => PyData.eqv z d
def numsF (ds : List PyData) : List Nat := ds.map (numOfD (metD [] ds))
/-- things that are compared -/
def CmpD (d : PyData) : Prop := d.canLay0 = true ∧ d.depth ≤ 62
theorem canAll : ∀ {ds : List PyData}, (∀ d ∈ ds, CmpD d) → PyData.canLayAll0 ds = true
  | [], _ => by simp [PyData.canLayAll0]
  | x :: xs, h => by
    rw [PyData.canLayAll0, (h x (List.mem_cons_self ..)).1, canAll fun d hd => h d (List.mem_cons_of_mem _ hd)]
    rfl
theorem CmpD.shaped {d : PyData} (h : CmpD d) : SeqAt.shaped d = true := by
  unfold SeqAt.shaped
  rw [h.1, decide_eq_true (by have := h.2; omega)]
  rfl
theorem cmp_list {ds : List PyData} (h : ∀ d ∈ ds, CmpD d) : SeqAt.shaped (.list ds) = true := by
  unfold SeqAt.shaped
  rw [PyData.canLay0, canAll h, PyData.depth, decide_eq_true (by have := dep_all fun d hd => (h d hd).2; omega)]
  rfl
def spNums (K : PySem.W.Frag) : Sp := fun vs H Q _ => ∃ (v : V) (ds : List PyData), vs = [v] ∧ Dp K H v (.list ds) ∧ ds.length ≤ 1000 ∧ (∀ d ∈ ds, CmpD d) ∧ ∀ (H' : Hp) (p : Addr), H p = none → Ex H H' → H' p = some (.lst (intsV (numsF ds))) → Q (.ref p) H'
end V


set_option Elab.async false
set_option linter.all false
set_option maxRecDepth 100000
set_option maxHeartbeats 4000000
namespace V
open PySem PySem.Spec PyProof.Rows L2 Evl TL NumText
/-! ### terms drawn with any heads -/
inductive By (many : Nat) (hs : List (Hd × Nat)) : Tm → Prop where
  | num {n : Nat} : n ≤ 1000002 → By many hs (.num n)
  | arg {k : Nat} : k < many → By many hs (.arg k)
  | op {o : Op} {ts : List Tm} : ts.length = o.ar → (∀ t ∈ ts, By many hs t) → By many hs (.node (.op o) ts)
  | hd {h : Hd} {ts : List Tm} : (h, ts.length) ∈ hs → (∀ t ∈ ts, By many hs t) → By many hs (.node h ts)
/-- the heads are of calls -/
def HdsOk (M : Nat) (hs : List (Hd × Nat)) : Prop := ∀ x ∈ hs, x.1.notOp = true ∧ x.1.ok M x.2
theorem By.okk {many M : Nat} {hs : List (Hd × Nat)} (hm : many ≤ 4) (ho : HdsOk M hs) : ∀ {t : Tm}, By many hs t → t.Ok M := by
  intro t h
  induction h with
  | num h => exact .num h
  | arg h => exact .arg (by omega)
  | op h _ ih => exact .node h ih
  | hd h _ ih => exact .node (ho _ h).2 ih
theorem By.more {many : Nat} {hs ks : List (Hd × Nat)} (hk : ∀ x ∈ hs, x ∈ ks) {t : Tm} (h : By many hs t) : By many ks t := by
  induction h with
  | num h => exact .num h
  | arg h => exact .arg h
  | op h _ ih => exact .op h ih
  | hd h _ ih => exact .hd (hk _ h) ih
/-- heads as they lie -/
inductive HdsAt (H : Hp) : List V → List (Hd × Nat) → Prop
  | nil : HdsAt H [] []
  | cons {v : V} {vs : List V} {x : Hd × Nat} {xs : List (Hd × Nat)} : HdAt H v x → HdsAt H vs xs → HdsAt H (v :: vs) (x :: xs)
theorem HdsAt.tu {H H' : Hp} (e : Tu H H') : ∀ {vs : List V} {xs : List (Hd × Nat)}, HdsAt H vs xs → HdsAt H' vs xs
  | _, _, .nil => .nil
  | _, _, .cons h hs => .cons (h.tu e) (hs.tu e)
theorem HdsAt.len {H : Hp} : ∀ {vs : List V} {xs : List (Hd × Nat)}, HdsAt H vs xs → vs.length = xs.length
  | _, _, .nil => rfl
  | _, _, .cons h hs => congrArg (· + 1) hs.len
theorem HdsAt.get {H : Hp} : ∀ {vs : List V} {xs : List (Hd × Nat)}, HdsAt H vs xs → ∀ {i : Nat}, i < xs.length → ∃ v x, vs[i]? = some v ∧ xs[i]? = some x ∧ HdAt H v x
  | _, _, .nil, i, h => absurd h (Nat.not_lt_zero i)
  | _, _, .cons h hs, 0, _ => ⟨_, _, rfl, rfl, h⟩
  | _, _, .cons h hs, i + 1, l => hs.get (Nat.lt_of_succ_lt_succ l)
theorem HdsAt.app {H : Hp} : ∀ {vs ws : List V} {xs ys : List (Hd × Nat)}, HdsAt H vs xs → HdsAt H ws ys → HdsAt H (vs ++ ws) (xs ++ ys)
  | _, _, _, _, .nil, k => k
  | _, _, _, _, .cons h hs, k => .cons h (hs.app k)
def hdD (x : Hd × Nat) : PyData := .tuple [x.1.pyd, .int (x.2 : Int)]
theorem HdsAt.dps {K : PySem.W.Frag} {H : Hp} : ∀ {vs : List V} {xs : List (Hd × Nat)}, HdsAt H vs xs → DpAll K H vs (xs.map hdD)
  | _, _, .nil => .nil
  | _, _, .cons h hs => .cons h.dp hs.dps
theorem hd_cmp {M : Nat} {x : Hd × Nat} (hn : x.1.notOp = true) (h : x.1.ok M x.2) : CmpD (hdD x) := by
  obtain ⟨h1, s⟩ := x
  cases h1 with
  | op o => cases hn
  | call m =>
    have k1 := mk_lay h.1
    have c1 : PyData.canLay0 (.str "call") = true := by decide +kernel
    refine ⟨?_, by simp [hdD, Hd.pyd, PyData.depth, PyData.depthAll]⟩
    simp only [hdD, Hd.pyd, PyData.canLay0, PyData.canLayAll0] at k1 c1 ⊢
    rw [k1, c1]
    decide
  | ring p =>
    have c1 : PyData.canLay0 (.str "ring") = true := by decide +kernel
    refine ⟨?_, by simp [hdD, Hd.pyd, PyData.depth, PyData.depthAll]⟩
    simp only [hdD, Hd.pyd, PyData.canLay0, PyData.canLayAll0] at c1 ⊢
    rw [c1]
    decide
/-- a list of heads -/
def HdsL (H : Hp) (hp : Addr) (hs : List (Hd × Nat)) : Prop := ∃ vs, H hp = some (.lst vs) ∧ HdsAt H vs hs
theorem HdsL.but {H H' : Hp} {hp b : Addr} {n : Nat} {hs : List (Hd × Nat)} (h : HdsL H hp hs) (hb : Box H b n) (e : But b H H') (ne : hp ≠ b) : HdsL H' hp hs := by
  obtain ⟨vs, h1, h2⟩ := h
  exact ⟨vs, e _ _ ne h1, h2.tu (hb.tu e)⟩
theorem HdsL.ex {H H' : Hp} {hp : Addr} {hs : List (Hd × Nat)} (h : HdsL H hp hs) (e : Ex H H') : HdsL H' hp hs := by
  obtain ⟨vs, h1, h2⟩ := h
  exact ⟨vs, e _ _ h1, h2.tu (Tu.of e)⟩
theorem HdsL.dp {K : PySem.W.Frag} {M : Nat} {H : Hp} {hp : Addr} {hs : List (Hd × Nat)} (h : HdsL H hp hs) (ho : HdsOk M hs) : ∃ d, Dp K H (.ref hp) d ∧ SeqAt.shaped d = true ∧ PyData.eqv d (.list []) = decide (hs = []) := by
  obtain ⟨vs, h1, h2⟩ := h
  refine ⟨_, .lst (SqL.of h1) h2.dps, cmp_list fun d hd => ?_, ?_⟩
  · obtain ⟨x, hx, rfl⟩ := List.mem_map.mp hd
    exact hd_cmp (ho x hx).1 (ho x hx).2
  · cases hs with
    | nil => simp [PyData.eqv, PyData.eqvAll]
    | cons x xs => simp [PyData.eqv, PyData.eqvAll]
/-- what comes of a draw of a term -/
def Drawn8 (b : Addr) (n d many : Nat) (hs : List (Hd × Nat)) (H : Hp) (Q : VK) : Prop := ∀ (H' : Hp) (v : V) (t : Tm), But b H H' → Box H' b n → TmAt H' v t → By many hs t → t.deep ≤ d → t.size ≤ most d → Q v H'
def spTerm8 (M d : Nat) : Sp := fun vs H Q _ => ∃ (b hp : Addr) (n many deep : Nat) (hs : List (Hd × Nat)), vs = [.ref b, .int (many : Int), .ref hp, .int (deep : Int)] ∧ Box H b (n + cost d) ∧ 1 ≤ deep ∧ deep ≤ d ∧ many ≤ 4 ∧ hp ≠ b ∧ HdsL H hp hs ∧ HdsOk M hs ∧ hs.length ≤ 100 ∧ Drawn8 b n d many hs H Q
theorem dec_or {a b : Bool} {p q : Prop} [Decidable p] [Decidable q] (h1 : a = decide p) (h2 : b = decide q) : (a || b) = decide (p ∨ q) := by rw [h1, h2, Bool.decide_or]
/-- is way below 5, or above it where there is no head? -/
def tWay (K : PySem.W.Frag) (i j : Nat) : TT := tOr (tTest (tOp (rI0 fun i j => .bl (decide (i < j))) (tVar i) (tC (.int 5)))) (tAnd (tTest (tOp (rEqD K) (tVar j) (tLst tNil))) (tTest (tOp (rI0 fun i j => .bl (decide (j < i))) (tVar i) (tC (.int 5)))))
theorem way_go {K : PySem.W.Frag} {i j : Nat} {σ : L2.St} {H : Hp} {Q : Bool → Hp → Prop} {v : V} {r : Int} {hs : List (Hd × Nat)} (hi : σ[i]? = some (some (.int r))) (hj : σ[j]? = some (some v))
    (hd : ∀ H', Ex H H' → ∃ d, Dp K H' v d ∧ SeqAt.shaped d = true ∧ PyData.eqv d (.list []) = decide (hs = [])) (q : ∀ H', Ex H H' → Q (decide (r < 5 ∨ (hs = [] ∧ 5 < r))) H') : tWay K i j σ H Q := by
  refine ⟨_, hi, _, _, rfl, rfl, _, rfl, ?_⟩
  by_cases c : r < 5
  · rw [decide_eq_true c]
    have q1 := q H (Ex.refl H)
    rw [decide_eq_true (.inl c)] at q1
    exact iteT q1
  rw [decide_eq_false c]
  refine iteF ⟨_, hj, sz 0, fun pe hpe => ?_⟩
  have e2 := Ex.new (o := .lst []) hpe
  obtain ⟨dd, d1, d2, d3⟩ := hd _ e2
  refine ⟨dd, .list [], d1, .lst (SqL.of upd_same) .nil, d2, rfl, _, rfl, ?_⟩
  have q1 := q _ e2
  rw [d3]
  by_cases c2 : hs = []
  · rw [decide_eq_true c2]
    refine iteT ⟨_, hi, _, _, rfl, rfl, _, rfl, ?_⟩
    by_cases c3 : 5 < r
    · rw [decide_eq_true c3]
      rw [decide_eq_true (.inr ⟨c2, c3⟩)] at q1
      exact q1
    · rw [decide_eq_false c3]
      rw [decide_eq_false (fun z => z.elim c fun y => c3 y.2)] at q1
      exact q1
  · rw [decide_eq_false c2]
    rw [decide_eq_false (fun z => z.elim c fun y => c2 y.1)] at q1
    exact iteF q1
end V


set_option Elab.async false
set_option linter.all false
set_option maxRecDepth 100000
set_option maxHeartbeats 400000
namespace V
open PySem PySem.Spec PyProof.Rows L2 Evl TL NumText
def spAny : Sp := fun vs H Q _ => ∃ (b : Addr) (n : Nat), vs = [.ref b] ∧ Box H b (n + 400) ∧ ∀ (H' : Hp) (v : V) (t : Tm), But b H H' → Box H' b n → TmAt H' v t → t.Ok 11 → t.deep ≤ 8 → t.size ≤ 50 → Q v H'
def CallHd (H : Hp) (v : V) : Prop := ∃ m s, HdAt H v (.call m, s) ∧ isMk m ∧ s ≤ 4
def RingHd (H : Hp) (v : V) : Prop := ∃ p s, HdAt H v (.ring p, s) ∧ p ≤ 11 ∧ s ≤ 4
theorem CallHd.tu {H H' : Hp} {v : V} (h : CallHd H v) (e : Tu H H') : CallHd H' v := by
  obtain ⟨m, s, h1, h2⟩ := h
  exact ⟨m, s, h1.tu e, h2⟩
theorem RingHd.tu {H H' : Hp} {v : V} (h : RingHd H v) (e : Tu H H') : RingHd H' v := by
  obtain ⟨m, s, h1, h2⟩ := h
  exact ⟨m, s, h1.tu e, h2⟩
/-- parts, not too deep, not too many -/
structure Few (H : Hp) (vs : List V) (ts : List Tm) (D S : Nat) : Prop where
  a : TmsAt H vs ts
  o : ∀ t ∈ ts, t.Ok 11
  d : Tm.deeps ts ≤ D
  z : Tm.sizes ts ≤ S
theorem few_nil (H : Hp) (D : Nat) : Few H [] [] D 0 := ⟨.nil, (fun t h => by cases h), Nat.zero_le _, Nat.le_refl _⟩
theorem few_cons {H : Hp} {v : V} {t : Tm} {vs : List V} {ts : List Tm} {D S s : Nat} (h : TmAt H v t) (o : t.Ok 11) (d : t.deep ≤ D) (z : t.size ≤ s) (k : Few H vs ts D S) : Few H (v :: vs) (t :: ts) D (s + S) :=
  ⟨.cons h k.a, (fun u hu => by
    rcases List.mem_cons.mp hu with rfl | hu
    · exact o
    · exact k.o u hu), (by show max t.deep (Tm.deeps ts) ≤ D; have := k.d; omega), (by show t.size + Tm.sizes ts ≤ s + S; have := k.z; omega)⟩
theorem Few.tu {H H' : Hp} {vs : List V} {ts : List Tm} {D S : Nat} (k : Few H vs ts D S) (e : Tu H H') : Few H' vs ts D S := ⟨k.a.tu e, k.o, k.d, k.z⟩
theorem Few.less {H : Hp} {vs : List V} {ts : List Tm} {D S S' : Nat} (k : Few H vs ts D S) (h : S ≤ S') : Few H vs ts D S' := ⟨k.a, k.o, k.d, Nat.le_trans k.z h⟩
theorem Few.node {H : Hp} {vs : List V} {ts : List Tm} {D S : Nat} (k : Few H vs ts D S) {h : Hd} (ho : h.ok 11 ts.length) : (Tm.node h ts).Ok 11 ∧ (Tm.node h ts).deep ≤ D + 1 ∧ (Tm.node h ts).size ≤ S + 1 :=
  ⟨.node ho k.o, (by show 1 + Tm.deeps ts ≤ D + 1; have := k.d; omega), (by show 1 + Tm.sizes ts ≤ S + 1; have := k.z; omega)⟩
theorem len_two {xs : List V} (h : xs.length = 2) : ∃ x y, xs = [x, y] := by
  match xs, h with
  | [x, y], _ => exact ⟨x, y, rfl⟩
/-- the box is let alone, a new list is led on -/
theorem But.on {H0 H4 H5 : Hp} {b l : Addr} {o : HO} (hl : H0 l = none) (u : But b H0 H4) (u5 : But b H4 H5) : But b H0 (L2.upd H5 l o) := fun a x ha ho => by
  have na : a ≠ l := fun z => by
    rw [z, hl] at ho
    cases ho
  rw [upd_ne na]
  exact u5 a x ha (u a x ha ho)
theorem Box.on {H : Hp} {b l : Addr} {n : Nat} {o : HO} (h : Box H b n) (k : l ≠ b) : Box (L2.upd H l o) b n := by
  obtain ⟨x, y, z, q1, q2⟩ := h
  exact ⟨x, y, z, by rw [upd_ne k.symm]; exact q1, q2⟩
theorem Box.ne {H : Hp} {b l : Addr} {n : Nat} (h : Box H b n) (hl : H l = none) : l ≠ b := fun z => by
  obtain ⟨xs, hx⟩ := h.lst
  rw [z, hx] at hl
  cases hl
end V


set_option Elab.async false
set_option linter.all false
set_option maxRecDepth 100000
set_option maxHeartbeats 4000000
namespace V
open PySem PySem.Spec PyProof.Rows L2 Evl TL NumText
/-- over a list or a tuple -/
def iSeq (K : PySem.W.Frag) (tl : TE) : TI := fun σ H R => tl σ H fun x H1 => ∃ a xs, x = .ref a ∧ ((SqL K H1 a xs ∧ R (Itl K a) H1) ∨ (SqT K H1 a xs ∧ R (Itt K a) H1))
theorem pi_seq {X : Cx} {tg l : Expr} {tl : TE} (hl : PE X l tl) : PI X tg l (iSeq X.K tl) := by
  refine ⟨fun pins s σ H R I h => ?_⟩
  refine thn (hl.run pins s σ H _ I h) fun v s1 ⟨x, H1, I1, r1, q1⟩ => ?_
  obtain ⟨a, xs, e, q⟩ := q1
  subst e
  cases r1
  have fr : ∀ b ∈ [s1.heap.objs.size], FpOk X pins H1 b := fun b hb => by
    have e : b = s1.heap.objs.size := by simpa using hb
    subst e
    exact I1.fpOk (Nat.le_refl _) (I1.hok.fresh (Nat.le_refl _))
  rcases q with ⟨hq, q⟩ | ⟨hq, q⟩
  · obtain ⟨its, rv, p, hz⟩ := I1.list hq
    refine wpAny_pyIter_list p.isList ?_
    exact ⟨s1.heap.objs.size, [s1.heap.objs.size], _, _, H1, rfl, I1.kept (t' := s1.toks) fun b o e => Heap.get?_push_of_some _ e, turn_list a _, ⟨_, Heap.get?_push_size _ rfl, rfl, rfl⟩, fr, q⟩
  · obtain ⟨its, rv, p, hz⟩ := I1.tuple hq
    refine wpAny_pyIter_tuple (show s1.heap.IsTuple a its.toArray from p) ?_
    exact ⟨s1.heap.objs.size, [s1.heap.objs.size], _, _, H1, rfl, I1.kept (t' := s1.toks) fun b o e => Heap.get?_push_of_some _ e, turn_tuple a _, ⟨_, Heap.get?_push_size _ rfl, rfl, rfl⟩, fr, q⟩
/-- bodies: how many, and a term -/
def BodAt (H : Hp) (v : V) (x : Nat × Tm) : Prop := ∃ p tv, v = .ref p ∧ H p = some (.tup [.int (x.1 : Int), tv]) ∧ TmAt H tv x.2
inductive BodsAt (H : Hp) : List V → List (Nat × Tm) → Prop where
  | nil : BodsAt H [] []
  | cons {v : V} {vs : List V} {x : Nat × Tm} {xs : List (Nat × Tm)} : BodAt H v x → BodsAt H vs xs → BodsAt H (v :: vs) (x :: xs)
theorem BodAt.ex {H H' : Hp} {v : V} {x : Nat × Tm} (h : BodAt H v x) (e : Ex H H') : BodAt H' v x := by
  obtain ⟨p, tv, h1, h2, h3⟩ := h
  exact ⟨p, tv, h1, e _ _ h2, h3.ex e⟩
theorem BodsAt.ex {H H' : Hp} (e : Ex H H') : ∀ {vs : List V} {xs : List (Nat × Tm)}, BodsAt H vs xs → BodsAt H' vs xs
  | _, _, .nil => .nil
  | _, _, .cons h hs => .cons (h.ex e) (hs.ex e)
theorem BodsAt.len {H : Hp} : ∀ {vs : List V} {xs : List (Nat × Tm)}, BodsAt H vs xs → vs.length = xs.length
  | _, _, .nil => rfl
  | _, _, .cons _ hs => by rw [List.length_cons, List.length_cons, hs.len]
theorem BodsAt.get {H : Hp} : ∀ {vs : List V} {xs : List (Nat × Tm)}, BodsAt H vs xs → ∀ {i : Nat} {v : V}, vs[i]? = some v → ∃ x, xs[i]? = some x ∧ BodAt H v x
  | _, _, .nil, i, v, e => by simp at e
  | _, _, .cons h hs, 0, v, e => by
    cases Option.some.inj e
    exact ⟨_, rfl, h⟩
  | _, _, .cons h hs, i + 1, v, e => hs.get (i := i) (v := v) e
/-- the bodies lie at a, as a list or as a tuple -/
def SeqAt' (K : PySem.W.Frag) (H : Hp) (a : Addr) (xs : List V) : Prop := SqL K H a xs ∨ SqT K H a xs
def leadsF (bs : List (Nat × Tm)) : List (List Nat) := bs.map fun x => x.2.places
def spLeads (K : PySem.W.Frag) : Sp := fun vs H Q _ => ∃ (a : Addr) (xs : List V) (bs : List (Nat × Tm)), vs = [.ref a] ∧ SeqAt' K H a xs ∧ BodsAt H xs bs ∧ bs.length ≤ 100 ∧ (∀ x ∈ bs, x.2.Ok 11 ∧ x.2.deep ≤ 8 ∧ x.2.size ≤ 1000) ∧
  ∀ (H' : Hp) (p : Addr), H p = none → Ex H H' → Dp K H' (.ref p) (leadsD (leadsF bs)) → Q (.ref p) H'
theorem dp_ints {K : PySem.W.Frag} {H : Hp} {p : Addr} {l : List Nat} (h : H p = some (.lst (intsV l))) : Dp K H (.ref p) (intsD l) := by
  refine .lst (SqL.of h) ?_
  unfold intsV
  clear h
  induction l with
  | nil => exact .nil
  | cons x l ih => exact .cons (.int _) ih
end V


set_option Elab.async false
set_option linter.all false
set_option maxRecDepth 100000
set_option maxHeartbeats 4000000
namespace V
open PySem PySem.Spec PyProof.Rows L2 Evl TL NumText
/-! ### ring calls otherwise -/
def Hd.re (hf : Nat → Hd) : Hd → Hd
  | .op o => .op o
  | .call m => .call m
  | .ring p => hf p
mutual
def Tm.re (hf : Nat → Hd) : Tm → Tm
  | .num n => .num n
  | .arg n => .arg n
  | .node h ts => .node (h.re hf) (Tm.res hf ts)
def Tm.res (hf : Nat → Hd) : List Tm → List Tm
  | [] => []
  | t :: ts => t.re hf :: Tm.res hf ts
end
theorem res_map (hf : Nat → Hd) : ∀ ts : List Tm, Tm.res hf ts = ts.map (Tm.re hf)
  | [] => rfl
  | t :: ts => by rw [Tm.res, res_map hf ts, List.map_cons]
/-- a dict of heads for the places below N, by the pairs of a word and what it calls; calls of marks are not in it -/
def ringK (p : Nat) : List Key := [.inr "ring", .inl (p : Int)]
def callK (m : Str) : List Key := [.inr "call", .inr m]
def HeadsAt (H : Hp) (a : Addr) (hf : Nat → Hd) (N : Nat) : Prop := ∃ kvs : List (List Key × V), H a = some (.dT kvs) ∧ (∀ p, p < N → ∃ q, valV kvs (ringK p) = some (.ref q) ∧ H q = some (.tup (hf p).L) ∧ (hf p).notOp = true) ∧ ∀ m, valV kvs (callK m) = none
theorem HeadsAt.ex {H H' : Hp} {a : Addr} {hf : Nat → Hd} {N : Nat} (h : HeadsAt H a hf N) (e : Ex H H') : HeadsAt H' a hf N := by
  obtain ⟨kvs, h1, h2, h3⟩ := h
  exact ⟨kvs, e _ _ h1, fun p hp => (by obtain ⟨q, a1, a2, a3⟩ := h2 p hp; exact ⟨q, a1, e _ _ a2, a3⟩), h3⟩
theorem two_of3 (x y z : V) : ¬ (HT.sIx [x, y, z].length 0 none = 0 ∧ HT.sIx [x, y, z].length [x, y, z].length (some 2) = [x, y, z].length) := by
  show ¬ (HT.sIx 3 0 none = 0 ∧ HT.sIx 3 3 (some 2) = 3)
  decide
theorem cut_two (x y z : V) : cutV [x, y, z] none (some 2) = [x, y] := rfl
def spWith (n : Nat) : Sp := fun vs H Q _ => ∃ (v : V) (t : Tm) (a : Addr) (hf : Nat → Hd) (N : Nat), vs = [v, .ref a] ∧ TmAt H v t ∧ t.Ok 11 ∧ t.deep ≤ n ∧ HeadsAt H a hf N ∧ (∀ p ∈ t.places, p < N) ∧
  ∀ (H' : Hp) (v' : V), Ex H H' → TmAt H' v' (t.re hf) → Q v' H'
theorem places_sub {t u : Tm} (h : u ∈ t.parts) : ∀ p ∈ u.places, p ∈ t.places := by
  cases t with
  | num n => cases h
  | arg n => cases h
  | node hd ts =>
    intro p hp
    rw [places_node]
    exact List.mem_append.mpr (.inr (List.mem_flatMap.mpr ⟨u, h, hp⟩))
theorem parts_few {t : Tm} (o : t.Ok 11) : t.parts.length ≤ 4 := by
  cases o with
  | num _ => exact Nat.zero_le _
  | arg _ => exact Nat.zero_le _
  | node hh _ => exact hh.le
theorem parts_ok {t u : Tm} (o : t.Ok 11) (h : u ∈ t.parts) : u.Ok 11 := by
  cases o with
  | num _ => cases h
  | arg _ => cases h
  | node _ hks => exact hks u h
end V


set_option Elab.async false
set_option linter.all false
set_option maxRecDepth 100000
set_option maxHeartbeats 4000000
namespace V
open PySem PySem.Spec PyProof.Rows L2
/-! ### {(..): .. for ..}: the keys are tuples -/
/-- what a dict comprehension stores at a key, whatever the key is -/
theorem dset_put {X : Cx} {pins : List (Addr × Obj)} {σ : L2.St} {H H6 : Hp} {s : Shared} {E : Value → Shared → Prop} {D : Addr} {y v : V} {u r : Value} {Q : Unit → Shared → Prop} (room : X.A.units + 1 < cLine)
    (I : Inv X pins σ H s) (put : DPut H D y v H6) (ry : RelV y u) (rv : RelV v r) (go : ∀ s2, Inv X pins σ H6 s2 → Q () s2) : wpAny (model X.prog X.w) X.A (dictSet D u r) Q E s := by
  rcases put with ⟨kvs, k, hD, rfl, few, rfl⟩ | ⟨kvs, k, b, hD, rfl, hb, few, rfl⟩
  · exact d_dictSet I hD few ry rv go
  · cases (show u = .ref b from ry)
    obtain ⟨hz, hm, xs, kt, dh⟩ := dt_of I.hok hD
    have lx : xs.length ≤ sizeLine := Paired.length kt ▸ hz
    have lp : (putK kvs k v).length ≤ sizeLine := Nat.le_trans (length_putK kvs k v) few
    refine wpAny_dictSet_heap (show (tupleKind (mixKind X.prog X.w)).room X.A from Nat.lt_of_succ_lt room) (key_of I.hok hb) dh (fun hp2 dh2 same => go _ ?_) lx
    obtain ⟨ob, es, ep, g1, g2, g3, g4, -, g6⟩ := dh2
    have mu : Mut (H D) := by rw [hD]; trivial
    refine d_write I mu same ⟨ob, g1⟩ ⟨lp, hm, _, KT.keeps (kt.put k hb rv) (fun c ys hc => ?_), ob, es, ep, g1, g2, g3, g4, g6⟩
    have nc : c ≠ D := fun z => by rw [z, hD] at hc; cases hc
    rw [upd_ne nc]
    exact hc
section
variable {X : Cx}
abbrev Blk (X : Cx) (P : Cx → Prop) (sc : Scope) : Prop := ∀ (s : Shared) (H : Hp) (C : Addr) (cl : List (Str × Addr)) (fp : List Addr), P (X.blk s H sc (compEnvC sc cl C X.env) fp)
def tDcT (wi : TI) (g : TG) (tt : TT) (tk tv : TE) (vs : List Nat) : TE := fun σ H Q => wi σ H fun J H1 => ∀ D, H1 D = none → ∃ W : Nat → Nat → Hp → Prop, (∃ m, W 0 m (upd H1 D (.dT []))) ∧
  ∀ i m H2, W i m H2 → (J.stop i H2 ∧ Q (.ref D) H2) ∨ (J.go i H2 ∧ ∃ Nx : Hp → Prop, (∀ H3, Nx H3 → ∃ m2, m2 < m ∧ W (i + 1) m2 H3) ∧
    ∀ x H3, J.yld i H2 x H3 → g x (wipe σ vs) H3 fun σ4 H4 => wipe σ4 vs = wipe σ vs ∧ tt σ4 H4 fun b H5 => if b = true then tk σ4 H5 fun y H6 => tv σ4 H6 fun z H7 => ∃ H8, DPut H7 D y z H8 ∧ Nx H8 else Nx H5)
theorem dcT_core {pins : List (Addr × Obj)} {s : Shared} {σ : L2.St} {H : Hp} {Q : VK} {kx vx tg iter : Expr} {ifs : List Expr} {sc : Scope} {own : List (Str × Nat)} {p1 p2 : Pos} {wi : TI} {g : TG} {tt : TT} {tk tv : TE} {use : Option (Value → Sem Unit)} {Qf : Value → Shared → Prop}
    (room : X.A.units + 1 < cLine) (hc : X.calm = true) (hN : X.N.Nodup) (I : Inv X pins σ H s) (hi : PI X tg iter wi) (ok : BlkOk X.N X.env.scope sc own)
    (hg : Blk X (fun Y => PG Y tg g) sc) (ht : Blk X (fun Y => PTs Y ifs tt) sc) (hk : Blk X (fun Y => PE Y kx tk) sc) (he : Blk X (fun Y => PE Y vx tv) sc) (hs : ∀ x, foldedSetIterable iter X.env x = pure x)
    (h : tDcT wi g tt tk tv (own.map Prod.snd) σ H Q)
    (fin : ∀ D C s2 m H2, Inv X pins σ H2 s2 → Q (.ref D) H2 → s2.heap.Ns C m → FpOk X pins H2 C → compPost (model X.prog X.w) X.A X.xe use Qf (.ref D) C (.ok .next) s2) :
    wpAny (model X.prog X.w) X.A (comprehension (.DictComp kx vx [⟨tg, iter, ifs, 0⟩] sc p1) sc X.env p2 newDict false (eval iter X.env) use) Qf X.xe s := by
  have cells : ∀ y ∈ sc.names, y.2 = .free → ∃ c, X.env.cells.lookup y.1 = some c := fun y hy e => by
    cases ok.free y hy e with
    | inl k => exact I.ok.has _ (.inl k)
    | inr k => exact I.ok.has _ (.inr k)
  refine wpAny_comprehension_free (use := use) rfl hs (closure_ok cells) ok.kind (fun y hy e => by rw [ok.uniq y hy, e]) (thn (hi.run pins s σ H _ I h) fun _ sa ha => thn ha fun itv sb hb => ?_)
  obtain ⟨it, fp, tn, J, Hb, rfl, Ib, T, stb, fb, q⟩ := hb
  refine wpAny_newObj_type (newEnv_comp ?_)
  generalize eD : sb.heap.objs.size = D
  obtain ⟨W, ⟨m0, w0⟩, turn⟩ := q D (Ib.hok.fresh (Nat.le_of_eq eD))
  generalize ec : ({ sb with heap := sb.heap.push { cls := .type "dict", data := .dict #[] } } : Shared) = sd
  have heapd : sd.heap = sb.heap.push { cls := .type "dict", data := .dict #[] } := by rw [← ec]
  have Id : Inv X pins σ (upd Hb D (.dT [])) sd := by
    rw [← ec]
    refine Ib.laid (t' := sb.toks) (fun _ _ e => Heap.get?_push_of_some _ e) (Nat.le_of_eq eD) ?_
    rw [← eD]
    exact dt_empty sb.heap Ib.big
  have low : ∀ b ∈ fp, b < sb.heap.objs.size := fun b hb => let ⟨_, e, _⟩ := T.obj _ _ stb b hb; Heap.lt_size e
  have fd : ∀ b ∈ fp, FpOk X pins (upd Hb D (.dT [])) b ∧ b < sd.heap.objs.size := fun b hb => by
    have l := low b hb
    have nb : b ≠ D := by rw [← eD]; exact Nat.ne_of_lt l
    exact ⟨⟨(upd_ne nb).trans (fb b hb).1, (fb b hb).2⟩, by rw [heapd, Heap.size_push]; exact Nat.lt_succ_of_lt l⟩
  have std : tn 0 sd.heap := T.keep _ _ _ stb fun b _ o e => by rw [heapd]; exact Heap.get?_push_of_some _ e
  have Ie := block_start Id ok hN fd
  have parts := (⟨hg sd (upd Hb D (.dT [])) sd.heap.objs.size (cellsFrom (sd.heap.objs.size + 1) sc.names (cloFrom X.env.cells sc.names [])) fp, ht sd (upd Hb D (.dT [])) sd.heap.objs.size (cellsFrom (sd.heap.objs.size + 1) sc.names (cloFrom X.env.cells sc.names [])) fp,
    hk sd (upd Hb D (.dT [])) sd.heap.objs.size (cellsFrom (sd.heap.objs.size + 1) sc.names (cloFrom X.env.cells sc.names [])) fp, he sd (upd Hb D (.dT [])) sd.heap.objs.size (cellsFrom (sd.heap.objs.size + 1) sc.names (cloFrom X.env.cells sc.names [])) fp⟩ : _ ∧ _ ∧ _ ∧ _)
  show codeAny _ _ (.compStart (.DictComp kx vx [⟨tg, iter, ifs, 0⟩] sc p1) 0 (.ref it) (.ref D) (compEnvC sc (cellsFrom (sd.heap.objs.size + 1) sc.names (cloFrom X.env.cells sc.names [])) sd.heap.objs.size X.env))
    (compPost (model X.prog X.w) X.A X.xe use Qf (.ref D) sd.heap.objs.size) { sd with heap := pushCells (sd.heap.push { cls := .type "dict", data := .dict #[] }) sc.names }
  have bare : ∀ b ∈ fp, (upd Hb D (.dT [])) b = none := fun b hb => (fd b hb).1.1
  generalize ee : compEnvC sc (cellsFrom (sd.heap.objs.size + 1) sc.names (cloFrom X.env.cells sc.names [])) sd.heap.objs.size X.env = env at Ie parts ⊢
  have eL : env.locals = sd.heap.objs.size := by rw [← ee]; rfl
  generalize upd Hb D (.dT []) = Hd at Id Ie parts w0 bare fd
  generalize es : ({ sd with heap := pushCells (sd.heap.push { cls := .type "dict", data := .dict #[] }) sc.names } : Shared) = se at Ie ⊢
  have ste : tn 0 se.heap := T.keep _ _ _ std fun b _ o e => by rw [← es]; exact pushCells_keeps _ _ _ _ (Heap.get?_push_of_some _ e)
  have free : ∀ {τ : L2.St} {G : Hp} {t : Shared}, Inv (X.blk sd Hd sc env fp) [] τ G t → (∀ b ∈ fp, G b = none) → ∀ b ∈ fp, FpOk (X.blk sd Hd sc env fp) [] G b := fun {τ G t} J n b hb =>
    ⟨n b hb, (J.ok.exf b hb).1, J.ok.exfs b hb, .inl hb, fun x c e => (J.ok.exf b hb).2 x c e, fun p hp => by cases (show p ∈ ([] : List (Addr × Obj)) from hp)⟩
  suffices loop : codeAny (model X.prog X.w) X.A (.compLoop (.DictComp kx vx [⟨tg, iter, ifs, 0⟩] sc p1) 0 (.ref it) (.ref D) env) (compPost (model X.prog X.w) X.A X.xe use Qf (.ref D) sd.heap.objs.size) se from
    codeAny_compStart_dict loop (T.self X.A 0 _ _ _ ste loop)
  let Inn : Nat → Shared → Prop := fun n t => ∃ i G, Inv (X.blk sd Hd sc env fp) [] (wipe σ (own.map Prod.snd)) G t ∧ tn i t.heap ∧ (∀ b ∈ fp, G b = none) ∧ W i n G
  refine compLoop_anyD Inn ?_ m0 ⟨0, Hd, Ie, ste, bare, w0⟩
  rintro n t ⟨i, G, J1, st1, n1, w1⟩
  rcases turn i n G w1 with ⟨stop, qq⟩ | ⟨more, Nx, less, step⟩
  · refine thnF (T.done (X.blk sd Hd sc env fp) rfl rfl rfl hc i [] t _ G (fun _ _ => False) J1 (free J1 n1) st1 stop) fun r t2 ⟨er, J2⟩ => ?_
    subst er
    have back : Inv X pins σ G t2 := Id.call' (ch := fp) J2.os J2.base J2.hok J2.bare fun b hb => let z := (fd b hb).1.2; ⟨z.2.2.1, z.1, z.2.2.2.1, z.2.2.2.2⟩
    have nC : G sd.heap.objs.size = none := eL ▸ (show G env.locals = none from J2.free)
    obtain ⟨m, hn, _⟩ := J2.loc
    exact fin D sd.heap.objs.size t2 m G back qq (eL ▸ (show t2.heap.Ns env.locals m from hn)) (Id.fpOk (Nat.le_refl _) nC)
  · refine thnF (T.item (X.blk sd Hd sc env fp) rfl rfl rfl hc i [] t _ G (fun _ _ => False) J1 (free J1 n1) st1 more) fun r t2 ⟨u, er, h2⟩ => ?_
    subst er
    refine thnF h2 fun _ t3 ⟨x, G3, J3, r3, y3, st3, n3⟩ => ?_
    have J3p := J3.pinned (free J3 n3) (T.obj _ _ st3)
    refine thnF (parts.1.run _ t3 _ G3 x u _ J3p r3 (step x G3 y3)) fun _ t4 ⟨σ4, G4, J4, e4, q4⟩ => ?_
    refine thnF (parts.2.1.run _ t4 σ4 G4 _ J4 q4) fun b t5 ⟨G5, J5, q5⟩ => ?_
    have next : ∀ {t6 : Shared} {G6 : Hp}, Inv (X.blk sd Hd sc env fp) ([] ++ pinsAt fp t3.heap) σ4 G6 t6 → Nx G6 → ∃ m, m < n ∧ Inn m t6 := fun {t6 G6} J6 nx => by
      obtain ⟨m2, lt, w6⟩ := less G6 nx
      have pin : ∀ b ∈ fp, ∀ o, t3.heap.get? b = some o → t6.heap.get? b = some o ∧ G6 b = none := fun b hb o e => by
        have z := J6.pin (b, o) (List.mem_append.mpr (.inr (List.mem_append.mpr (.inr (mem_pinsAt hb e)))))
        exact ⟨z.1, z.2.1⟩
      have len : (wipe σ (own.map Prod.snd)).length = σ4.length := e4 ▸ wipe_length ..
      refine ⟨m2, lt, i + 1, G6, (J6.unpinned (pins := [])).weak len (fun j v e => (wipe_some (e4 ▸ e)).1), T.keep _ _ _ st3 (fun b hb o e => (pin b hb o e).1), fun b hb => ?_, w6⟩
      obtain ⟨o, e, _⟩ := T.obj _ _ st3 b hb
      exact (pin b hb o e).2
    cases b with
    | false => exact next J5 q5
    | true =>
      refine thnF (parts.2.2.1.run _ t5 σ4 G5 _ J5 q5) fun ku t6 ⟨ky, G6, J6, r6, q6⟩ => ?_
      refine thnF (parts.2.2.2.run _ t6 σ4 G6 _ J6 q6) fun vu t7 ⟨vy, G7, J7, r7, G8, put, nx⟩ => ?_
      exact dset_put (X := X.blk sd Hd sc env fp) room J7 put r6 r7 fun t8 J8 => next J8 nx
theorem pe_dcT {kx vx tg iter : Expr} {ifs : List Expr} {sc : Scope} {own : List (Str × Nat)} {p1 : Pos} {wi : TI} {g : TG} {tt : TT} {tk tv : TE} (room : X.A.units + 1 < cLine) (hc : X.calm = true) (hN : X.N.Nodup) (hi : PI X tg iter wi) (ok : BlkOk X.N X.env.scope sc own)
    (hg : Blk X (fun Y => PG Y tg g) sc) (ht : Blk X (fun Y => PTs Y ifs tt) sc) (hk : Blk X (fun Y => PE Y kx tk) sc) (he : Blk X (fun Y => PE Y vx tv) sc) (hs : ∀ x, foldedSetIterable iter X.env x = pure x := by intro _; rfl) :
    PE X (.DictComp kx vx [⟨tg, iter, ifs, 0⟩] sc p1) (tDcT wi g tt tk tv (own.map Prod.snd)) := ⟨fun pins s σ H Q I h => by
  rw [arm_eval_DictComp]
  refine dcT_core room hc hN I hi ok hg ht hk he hs h fun D C t m G J q hn f => ⟨m, hn, fun hp sb => ?_⟩
  exact ⟨.ref D, G, J.turned (t' := t.toks) (fun b _ hb e => (sb.2 b hb).trans e) f.1 f.2.1 f.2.2.2.1 f.2.2.2.2.1 f.2.2.2.2.2, rfl, q⟩⟩
/-- name = {(..): .. for ..} in one row, the name a local -/
theorem ps_setDcT {i : Nat} {y : Str} {py : Pos} {kx vx tg iter : Expr} {ifs : List Expr} {sc : Scope} {own : List (Str × Nat)} {p1 spos : Pos} {wi : TI} {g : TG} {tt : TT} {tk tv : TE} (room : X.A.units + 1 < cLine) (hc : X.calm = true) (hN : X.N.Nodup) (hy : X.N[i]? = some y) (hyl : X.env.scope.names.lookup y = some .local)
    (hsw : swapsWith (.DictComp kx vx [⟨tg, iter, ifs, 0⟩] sc p1) (some (.Name y py)) spos.line X.env = pure true) (hi : PI X tg iter wi) (ok : BlkOk X.N X.env.scope sc own)
    (hg : Blk X (fun Y => PG Y tg g) sc) (ht : Blk X (fun Y => PTs Y ifs tt) sc) (hk : Blk X (fun Y => PE Y kx tk) sc) (he : Blk X (fun Y => PE Y vx tv) sc) (hs : ∀ x, foldedSetIterable iter X.env x = pure x := by intro _; rfl) :
    PS X (.Assign [.Name y py] (.DictComp kx vx [⟨tg, iter, ifs, 0⟩] sc p1) spos) (tAsg (tDcT wi g tt tk tv (own.map Prod.snd)) (gName i)) := by
  refine ⟨fun pins s σ H D I h => ?_⟩
  rw [exec_Assign_Name_used _ _ _ _ hsw]
  refine wpAny_bind (wpAny_standAt (wpAny_bind ?_))
  show wpAny _ X.A (do let _ ← comprehension (.DictComp kx vx [⟨tg, iter, ifs, 0⟩] sc p1) sc X.env _ newDict false (eval iter X.env) (some (assign (.Name y py) X.env))) _ _ s
  have h2 : tDcT wi g tt tk tv (own.map Prod.snd) σ H (fun x H1 => gName i x σ H1 D.nx) := h
  refine wpAny_bind (thn (dcT_core (Qf := fun _ t => SP X pins D .next t) room hc hN I hi ok hg ht hk he hs h2 fun L C t m G J q hn f => ?_) fun _ _ hq => wpAny_pure (wpAny_pure hq))
  show wpAny _ _ (assign (.Name y py) X.env (.ref L)) _ _ _
  refine wpAny_assign_Name (store_ok2 (v := V.ref L) J hN hy (.inl hyl) rfl (fun t2 J2 ⟨a, sb, ha⟩ => ?_) (.inr hyl))
  have nC : C ≠ a := by
    rcases ha with z | z
    · exact z ▸ f.2.1
    · exact fun e => f.2.2.2.2.1 y a z e.symm
  exact ⟨m, hn.sameBut sb nC, fun _ sb3 => ⟨_, G, J2.turned (t' := t2.toks) (fun b _ hb e => (sb3.2 b hb).trans e) f.1 f.2.1 f.2.2.2.1 f.2.2.2.2.1 f.2.2.2.2.2, q⟩⟩
end
/-- {(..): .. for x in range(n)} -/
theorem dcT_range {lo : Int} {n : Nat} {g : TG} {tt : TT} {tk tv : TE} {vs : List Nat} {σ : L2.St} {H1 : Hp} {D : Addr} {Qd : Hp → Prop} (Pv : Nat → Hp → Prop) (h0 : Pv 0 (upd H1 D (.dT [])))
    (hs : ∀ i H, i < n → Pv i H → g (.int (lo + i)) (wipe σ vs) H fun σ2 H2 => wipe σ2 vs = wipe σ vs ∧ tt σ2 H2 fun b H3 =>
      if b = true then tk σ2 H3 fun y H4 => tv σ2 H4 fun z H5 => ∃ H6, DPut H5 D y z H6 ∧ Pv (i + 1) H6 else Pv (i + 1) H3) (hd : ∀ H, Pv n H → Qd H) :
    ∃ W : Nat → Nat → Hp → Prop, (∃ m, W 0 m (upd H1 D (.dT []))) ∧ ∀ i m H, W i m H →
      ((Itr lo n).stop i H ∧ Qd H) ∨ ((Itr lo n).go i H ∧ ∃ Nx : Hp → Prop, (∀ H', Nx H' → ∃ m', m' < m ∧ W (i + 1) m' H') ∧ ∀ x H', (Itr lo n).yld i H x H' → g x (wipe σ vs) H' fun σ2 H2 => wipe σ2 vs = wipe σ vs ∧ tt σ2 H2 fun b H3 =>
        if b = true then tk σ2 H3 fun y H4 => tv σ2 H4 fun z H5 => ∃ H6, DPut H5 D y z H6 ∧ Nx H6 else Nx H3) := by
  refine ⟨fun i m H => m = n - i ∧ i ≤ n ∧ Pv i H, ⟨n, by simp, Nat.zero_le _, h0⟩, ?_⟩
  rintro i m H ⟨rfl, hi, p⟩
  by_cases hlt : i < n
  · refine .inr ⟨hlt, Pv (i + 1), fun H' p' => ⟨n - (i + 1), by omega, rfl, hlt, p'⟩, fun x H' y => ?_⟩
    obtain ⟨e, y⟩ := y
    subst e y
    exact hs i _ hlt p
  · have e : i = n := by omega
    subst e
    exact .inl ⟨Nat.le_refl _, hd H p⟩
end V


set_option Elab.async false
set_option linter.all false
set_option maxRecDepth 100000
set_option maxHeartbeats 4000000
namespace V
open PySem PySem.Spec PyProof.Rows L2 Evl TL NumText
theorem BodAt.tu {H H' : Hp} {v : V} {x : Nat × Tm} (h : BodAt H v x) (e : Tu H H') : BodAt H' v x := by
  obtain ⟨p, tv, h1, h2, h3⟩ := h
  exact ⟨p, tv, h1, e _ _ h2, h3.tu e⟩
theorem BodsAt.tu {H H' : Hp} (e : Tu H H') : ∀ {vs : List V} {xs : List (Nat × Tm)}, BodsAt H vs xs → BodsAt H' vs xs
  | _, _, .nil => .nil
  | _, _, .cons h hs => .cons (h.tu e) (hs.tu e)
theorem BodsAt.app {H : Hp} : ∀ {vs ws : List V} {xs ys : List (Nat × Tm)}, BodsAt H vs xs → BodsAt H ws ys → BodsAt H (vs ++ ws) (xs ++ ys)
  | _, _, _, _, .nil, k => k
  | _, _, _, _, .cons h hs, k => .cons h (hs.app k)
def bodD (x : Nat × Tm) : PyData := .tuple [.int (x.1 : Int), x.2.py]
theorem BodsAt.dps {K : PySem.W.Frag} {H : Hp} : ∀ {vs : List V} {xs : List (Nat × Tm)}, BodsAt H vs xs → DpAll K H vs (xs.map bodD)
  | _, _, .nil => .nil
  | _, _, .cons ⟨p, tv, h1, h2, h3⟩ hs => by
    subst h1
    exact .cons (.tup (SqT.of h2) (.cons (.int _) (.cons h3.dp .nil))) hs.dps
def reB (hf : Nat → Hd) (x : Nat × Tm) : Nat × Tm := (x.1, x.2.re hf)
def spWithAll (K : PySem.W.Frag) : Sp := fun vs H Q _ => ∃ (a h : Addr) (xs : List V) (bs : List (Nat × Tm)) (hf : Nat → Hd) (N : Nat), vs = [.ref a, .ref h] ∧ SeqAt' K H a xs ∧ BodsAt H xs bs ∧ bs.length ≤ 100 ∧ (∀ x ∈ bs, x.2.Ok 11 ∧ x.2.deep ≤ 8) ∧
  HeadsAt H h hf N ∧ (∀ x ∈ bs, ∀ p ∈ x.2.places, p < N) ∧ ∀ (H' : Hp) (p : Addr) (ws : List V), H p = none → Ex H H' → H' p = some (.lst ws) → BodsAt H' ws (bs.map (reB hf)) → Q (.ref p) H'
/-- {..: .. for x in range(n)} -/
theorem dc_range {lo : Int} {n : Nat} {g : TG} {tt : TT} {tk tv : TE} {vs : List Nat} {σ : L2.St} {H1 : Hp} {D : Addr} {Qd : Hp → Prop} (Pv : Nat → Hp → Prop) (h0 : Pv 0 (upd H1 D (.dK [])))
    (hs : ∀ i H, i < n → Pv i H → g (.int (lo + i)) (wipe σ vs) H fun σ2 H2 => wipe σ2 vs = wipe σ vs ∧ tt σ2 H2 fun b H3 =>
      if b = true then tk σ2 H3 fun y H4 => tv σ2 H4 fun z H5 => ∃ kvs k, y = kV k ∧ H5 D = some (.dK kvs) ∧ kvs.length < sizeLine ∧ Pv (i + 1) (upd H5 D (.dK (putK kvs k z))) else Pv (i + 1) H3) (hd : ∀ H, Pv n H → Qd H) :
    ∃ W : Nat → Nat → Hp → Prop, (∃ m, W 0 m (upd H1 D (.dK []))) ∧ ∀ i m H, W i m H →
      ((Itr lo n).stop i H ∧ Qd H) ∨ ((Itr lo n).go i H ∧ ∃ Nx : Hp → Prop, (∀ H', Nx H' → ∃ m', m' < m ∧ W (i + 1) m' H') ∧ ∀ x H', (Itr lo n).yld i H x H' → g x (wipe σ vs) H' fun σ2 H2 => wipe σ2 vs = wipe σ vs ∧ tt σ2 H2 fun b H3 =>
        if b = true then tk σ2 H3 fun y H4 => tv σ2 H4 fun z H5 => ∃ kvs k, y = kV k ∧ H5 D = some (.dK kvs) ∧ kvs.length < sizeLine ∧ Nx (upd H5 D (.dK (putK kvs k z))) else Nx H3) := by
  refine ⟨fun i m H => m = n - i ∧ i ≤ n ∧ Pv i H, ⟨n, by simp, Nat.zero_le _, h0⟩, ?_⟩
  rintro i m H ⟨rfl, hi, p⟩
  by_cases hlt : i < n
  · refine .inr ⟨hlt, Pv (i + 1), fun H' p' => ⟨n - (i + 1), by omega, rfl, hlt, p'⟩, fun x H' y => ?_⟩
    obtain ⟨e, y⟩ := y
    subst e y
    exact hs i _ hlt p
  · have e : i = n := by omega
    subst e
    exact .inl ⟨Nat.le_refl _, hd H p⟩
def shapeF (_ : Nat) : Hd := .ring 0
def spShapes (K : PySem.W.Frag) : Sp := fun vs H Q _ => ∃ (a : Addr) (xs : List V) (bs : List (Nat × Tm)), vs = [.ref a] ∧ SeqAt' K H a xs ∧ BodsAt H xs bs ∧ bs.length ≤ 100 ∧ (∀ x ∈ bs, x.2.Ok 11 ∧ x.2.deep ≤ 8) ∧
  (∀ x ∈ bs, ∀ p ∈ x.2.places, p < bs.length) ∧ ∀ (H' : Hp) (p : Addr) (ws : List V), H p = none → Ex H H' → H' p = some (.lst ws) → BodsAt H' ws (bs.map (reB shapeF)) → Q (.ref p) H'
/-- a dict of heads, as it grows -/
def lastOf (l : List (Nat × Hd)) (p : Nat) : Option Hd := (l.reverse.find? fun x => decide (x.1 = p)).map (·.2)
theorem lastOf_snoc (l : List (Nat × Hd)) (x : Nat × Hd) (p : Nat) : lastOf (l ++ [x]) p = if x.1 = p then some x.2 else lastOf l p := by
  unfold lastOf
  rw [List.reverse_append]
  by_cases c : x.1 = p
  · rw [if_pos c, show ([x].reverse ++ l.reverse) = x :: l.reverse from rfl, List.find?_cons_of_pos (by simpa using c)]
    rfl
  · rw [if_neg c, show ([x].reverse ++ l.reverse) = x :: l.reverse from rfl, List.find?_cons_of_neg (by simpa using c)]
theorem ringK_inj {p r : Nat} (h : ringK p = ringK r) : p = r := by
  unfold ringK at h
  have h1 := (List.cons.inj (List.cons.inj h).2).1
  have h2 := Sum.inl.inj h1
  omega
theorem ring_call {p : Nat} {m : Str} (h : callK m = ringK p) : False := by
  have h1 := Sum.inr.inj (List.cons.inj h).1
  revert h1
  decide +kernel
def HdsD (H : Hp) (D : Addr) (l : List (Nat × Hd)) : Prop := ∃ kvs : List (List Key × V), H D = some (.dT kvs) ∧ kvs.length ≤ l.length ∧
  (∀ p h, lastOf l p = some h → ∃ q, valV kvs (ringK p) = some (.ref q) ∧ H q = some (.tup h.L)) ∧ ∀ m, valV kvs (callK m) = none
theorem HdsD.new {H : Hp} {D : Addr} : HdsD (upd H D (.dT [])) D [] := ⟨[], upd_same, Nat.le_refl _, (fun p h e => nomatch (show (none : Option Hd) = some h from e)), fun m => rfl⟩
theorem HdsD.ex {H H' : Hp} {D : Addr} {l : List (Nat × Hd)} (h : HdsD H D l) (e : Ex H H') : HdsD H' D l := by
  obtain ⟨kvs, h1, h2, h3, h4⟩ := h
  exact ⟨kvs, e _ _ h1, h2, fun p h hp => (by obtain ⟨q, a1, a2⟩ := h3 p h hp; exact ⟨q, a1, e _ _ a2⟩), h4⟩
theorem HdsD.put {H : Hp} {D b q : Addr} {l : List (Nat × Hd)} {p : Nat} {h : Hd} (s : HdsD H D l) (hl : l.length < 1000) (hb : H b = some (.tup ((ringK p).map kV))) (hq : H q = some (.tup h.L)) :
    ∃ kvs : List (List Key × V), DPut H D (.ref b) (.ref q) (upd H D (.dT kvs)) ∧ HdsD (upd H D (.dT kvs)) D (l ++ [(p, h)]) := by
  obtain ⟨kvs, h1, h2, h3, h4⟩ := s
  refine ⟨_, DPut.t h1 hb (small1000 (by omega)), _, upd_same, ?_, fun r k hr => ?_, fun m => ?_⟩
  · have := length_putK kvs (ringK p) (.ref q)
    rw [List.length_append]
    exact Nat.le_trans this (Nat.succ_le_succ h2)
  · rw [lastOf_snoc] at hr
    have ne : ∀ {c : Addr} {ys : List V}, H c = some (.tup ys) → c ≠ D := fun hc z => by rw [z, h1] at hc; cases hc
    by_cases c : p = r
    · rw [if_pos c] at hr
      cases hr
      subst c
      exact ⟨q, by rw [valV_put, if_pos rfl], by rw [upd_ne (ne hq)]; exact hq⟩
    · rw [if_neg c] at hr
      obtain ⟨q2, a1, a2⟩ := h3 r k hr
      exact ⟨q2, by rw [valV_put, if_neg (fun z => c (ringK_inj z.symm))]; exact a1, by rw [upd_ne (ne a2)]; exact a2⟩
  · rw [valV_put, if_neg (fun z => ring_call z)]
    exact h4 m
theorem HdsD.heads {H : Hp} {D : Addr} {l : List (Nat × Hd)} {hf : Nat → Hd} {N : Nat} (s : HdsD H D l) (h : ∀ p, p < N → lastOf l p = some (hf p) ∧ (hf p).notOp = true) : HeadsAt H D hf N := by
  obtain ⟨kvs, h1, h2, h3, h4⟩ := s
  exact ⟨kvs, h1, fun p hp => (by obtain ⟨q, a1, a2⟩ := h3 p _ (h p hp).1; exact ⟨q, a1, a2, (h p hp).2⟩), h4⟩
theorem lastOf_mem {l : List (Nat × Hd)} {hf : Nat → Hd} (h : ∀ x ∈ l, x.2 = hf x.1) {p : Nat} (hp : p ∈ l.map (·.1)) : lastOf l p = some (hf p) := by
  unfold lastOf
  obtain ⟨x, hx, rfl⟩ := List.mem_map.mp hp
  cases e : l.reverse.find? (fun y => decide (y.1 = x.1)) with
  | none =>
    have := List.find?_eq_none.mp e x (List.mem_reverse.mpr hx)
    simp at this
  | some y =>
    have h1 := List.find?_some e
    have h2 := List.mem_reverse.mp (List.mem_of_find?_eq_some e)
    have h3 : y.1 = x.1 := of_decide_eq_true h1
    show some y.2 = _
    rw [h y h2, h3]
end V


set_option Elab.async false
set_option linter.all false
set_option maxRecDepth 100000
set_option maxHeartbeats 4000000
namespace V
open PySem PySem.Spec PyProof.Rows L2 Evl TL NumText
/-! ### drawn bodies -/
/-- the heads of ring calls of bodies with so many arguments -/
def nearH (cs : List Nat) : List (Hd × Nat) := cs.zipIdx.map fun x => (Hd.ring x.2, x.1)
theorem nearH_snoc (cs : List Nat) (c : Nat) : nearH (cs ++ [c]) = nearH cs ++ [(Hd.ring cs.length, c)] := by
  unfold nearH
  rw [List.zipIdx_append, List.map_append]
  simp
theorem nearH_len (cs : List Nat) : (nearH cs).length = cs.length := by
  unfold nearH
  rw [List.length_map, List.length_zipIdx]
theorem nearH_mem {cs : List Nat} {x : Hd × Nat} (h : x ∈ nearH cs) : ∃ p c, x = (Hd.ring p, c) ∧ cs[p]? = some c := by
  unfold nearH at h
  obtain ⟨y, hy, rfl⟩ := List.mem_map.mp h
  exact ⟨y.2, y.1, rfl, by simpa using List.mem_zipIdx_iff_getElem?.mp hy⟩
theorem nearH_ok {M : Nat} {cs : List Nat} (hl : cs.length ≤ M + 1) (h4 : ∀ c ∈ cs, c ≤ 4) : HdsOk M (nearH cs) := fun x hx => by
  obtain ⟨p, c, rfl, hp⟩ := nearH_mem hx
  have l := (List.getElem?_eq_some_iff.mp hp).1
  exact ⟨rfl, by omega, h4 c (List.mem_of_getElem? hp)⟩
theorem HdsOk.app {M : Nat} {hs ks : List (Hd × Nat)} (h : HdsOk M hs) (k : HdsOk M ks) : HdsOk M (hs ++ ks) := fun x hx => (List.mem_append.mp hx).elim (h x) (k x)
/-- the bodies call one another, and what is in calls -/
def Fits (calls : List (Hd × Nat)) (bs : List (Nat × Tm)) : Prop := ∀ x ∈ bs, x.1 ≤ 4 ∧ By x.1 (nearH (bs.map (·.1)) ++ calls) x.2
/-- heads of calls of marks -/
def CallsOk (calls : List (Hd × Nat)) : Prop := ∀ x ∈ calls, ∃ m, x.1 = .call m ∧ isMk m ∧ x.2 ≤ 4
theorem CallsOk.ok {M : Nat} {calls : List (Hd × Nat)} (h : CallsOk calls) : HdsOk M calls := fun x hx => by
  obtain ⟨m, e, h1, h2⟩ := h x hx
  obtain ⟨y, s⟩ := x
  cases (show y = .call m from e)
  exact ⟨rfl, h1, h2⟩
def spBodies8 (K : PySem.W.Frag) (d : Nat) : Sp := fun vs H Q _ => ∃ (b cp : Addr) (n size deep : Nat) (calls : List (Hd × Nat)), vs = [.ref b, .int (size : Int), .int (deep : Int), .ref cp] ∧ Box H b (n + size * (5 + cost d)) ∧ 1 ≤ size ∧ size ≤ 12 ∧ 2 ≤ deep ∧ deep ≤ d ∧
  cp ≠ b ∧ HdsL H cp calls ∧ CallsOk calls ∧ calls.length ≤ 80 ∧ ∀ (H' : Hp) (p : Addr) (xs : List V) (bs : List (Nat × Tm)), But b H H' → Box H' b n → H p = none → H' p = some (.lst xs) → BodsAt H' xs bs → bs.length = size → Fits calls bs →
    (∀ x ∈ bs, x.2.deep ≤ d ∧ x.2.size ≤ most d) → Q (.ref p) H'
/-- two boxes that are laid anew beside the box of draws -/
theorem But.on2 {H0 H4 : Hp} {b l : Addr} {o : HO} (hl : H0 l = none) (u : But b H0 H4) : But b H0 (L2.upd H4 l o) := But.on hl u (But.refl b H4)
theorem small1000' {n : Nat} (h : n ≤ 1000) : n ≤ sizeLine := Nat.le_of_lt (small1000 h)
theorem HdsAt.cut1 {H : Hp} {vs : List V} {xs : List (Hd × Nat)} (h : HdsAt H vs xs) : ∃ ws, cutV vs none (some 1) = ws ∧ HdsAt H ws (xs.take 1) := by
  refine ⟨_, rfl, ?_⟩
  cases h with
  | nil => exact .nil
  | cons h hs =>
    rename_i v vs x xs
    have e : cutV (v :: vs) none (some 1) = [v] := by
      unfold cutV
      rw [HT.sIx_none, show (some (1 : Int)) = some ((1 : Nat) : Int) from rfl, HT.sIx_nat, List.length_cons, Nat.min_eq_left (by omega)]
      rfl
    rw [e]
    exact .cons h .nil
theorem intsV_get {cs : List Nat} {i : Nat} {v : V} (h : (intsV cs)[i]? = some v) : ∃ c : Nat, cs[i]? = some c ∧ v = .int (c : Int) := by
  unfold intsV at h
  rw [List.getElem?_map] at h
  cases e : cs[i]? with
  | none => rw [e] at h; cases h
  | some c => rw [e] at h; exact ⟨c, rfl, (Option.some.inj h).symm⟩
theorem fresh_but {H H' : Hp} {b a : Addr} {n : Nat} (hB : Box H b n) (u : But b H H') (h : H' a = none) (ne : a ≠ b) : H a = none := by
  cases e : H a with
  | none => rfl
  | some o => rw [u a o ne e] at h; cases h
end V


set_option Elab.async false
set_option linter.all false
set_option maxRecDepth 100000
set_option maxHeartbeats 4000000
namespace V
open PySem PySem.Spec PyProof.Rows L2 Evl TL NumText
/-! ### marks of numbers and of texts -/
def sgAt (d : Nat) : Nat := sgS.cps.toList.getD d 0
/-- so many figures ahead of these -/
def mkL : Nat → Nat → List Nat → List Nat
  | 0, _, acc => acc
  | k + 1, n, acc => mkL k (n / 36) (sgAt (n % 36) :: acc)
def mkS (n : Nat) : Str := ⟨(mkL 6 n []).toArray⟩
def sgIx (c : Nat) : Nat := sgS.cps.toList.findIdx (· == c)
def hashL (l : List Nat) (n : Nat) : Nat := l.foldl (fun a c => (a * 131 + sgIx c + 1) % 998244353) n
def spMarkN : Sp := fun vs H Q _ => ∃ n : Nat, vs = [.int (n : Int)] ∧ n < 2147483648 ∧ ∀ (H' : Hp), Ex H H' → Q (.str (mkS n)) H'
def spMarkT : Sp := fun vs H Q _ => ∃ z : Str, vs = [.str z] ∧ z.length ≤ 1000000 ∧ (∀ c ∈ tl z, c ∈ tl sgS) ∧ ∀ (H' : Hp), Ex H H' → Q (.str (mkS (hashL (tl z) 7))) H'
theorem sg_at : ∀ d : Nat, d < 36 → atI sgS.cps.toList (d : Int) = some (sgAt d) := by
  intro d hd
  refine atI_nat ?_
  have all : ∀ d : Nat, d < 36 → sgS.cps.toList[d]? = some (sgAt d) := by decide +kernel
  exact all d hd
theorem sg_ix : ∀ c ∈ tl sgS, ∃ rest, Builtin.Str.occurrences sgS ⟨#[c]⟩ 0 sgS.length 1 = sgIx c :: rest := by
  intro c hc
  have all : ∀ c ∈ tl sgS, (Builtin.Str.occurrences sgS ⟨#[c]⟩ 0 sgS.length 1).head? = some (sgIx c) := by decide +kernel
  have h := all c hc
  cases e : Builtin.Str.occurrences sgS ⟨#[c]⟩ 0 sgS.length 1 with
  | nil =>
    rw [e] at h
    cases h
  | cons x r =>
    rw [e] at h
    cases h
    exact ⟨r, rfl⟩
theorem sg_ix_lt : ∀ c ∈ tl sgS, sgIx c < 43 := by decide +kernel
theorem one_append (c : Nat) (l : List Nat) : (⟨#[c]⟩ : Str) ++ ⟨l.toArray⟩ = ⟨(c :: l).toArray⟩ := ext_tl (by rw [tl_append]; rfl)
end V


set_option Elab.async false
set_option linter.all false
set_option maxRecDepth 100000
set_option maxHeartbeats 400000
namespace V
open PySem PySem.Spec PyProof.Rows L2 Evl TL NumText
/-! ### the law's own marks and depths -/
theorem sg_at43 : ∀ d : Nat, d < 36 → atI sgS.cps.toList (d : Int) = some (sgAt d) := sg_at
end V


set_option Elab.async false
set_option linter.all false
set_option maxRecDepth 100000
set_option maxHeartbeats 400000
namespace V
open PySem PySem.Spec PyProof.Rows L2 Evl TL NumText
/-- a statement that may end it -/
def Hr (t : TS) (A B : L2.St → Hp → Prop) (Q : VK) : Prop := ∀ (D : Ends) (σ : L2.St) (H : Hp), A σ H → (∀ σ' H', B σ' H' → D.nx σ' H') → (∀ v H', Q v H' → D.rt v H') → t D σ H
theorem Hr.fin {t u : TS} {A B : L2.St → Hp → Prop} {Q : VK} (h1 : Hr t A B Q) (h2 : He1 u B Q) : He1 (tSeq t u) A Q := fun D σ H a k => h1 { D with nx := u D } σ H a (fun σ' H' b => h2 D σ' H' b k) k
theorem word_leaf {t : Tm} (h : ∀ hd ts, t ≠ .node hd ts) : inV (.str t.word) [.str "num", .str "arg"] = true := by
  cases t with
  | num n => show inV (.str "num") [.str "num", .str "arg"] = true; decide +kernel
  | arg n => show inV (.str "arg") [.str "num", .str "arg"] = true; decide +kernel
  | node hd ts => exact absurd rfl (h hd ts)
theorem word_node (hd : Hd) (ts : List Tm) : inV (.str (Tm.node hd ts).word) [.str "num", .str "arg"] = false := by
  cases hd with
  | op o => show inV (.str o.str) [.str "num", .str "arg"] = false; cases o <;> decide +kernel
  | call m => show inV (.str "call") [.str "num", .str "arg"] = false; decide +kernel
  | ring p => show inV (.str "ring") [.str "num", .str "arg"] = false; decide +kernel
theorem word_call (hd : Hd) (ts : List Tm) : inV (.str (Tm.node hd ts).word) [.str "call", .str "ring"] = hd.notOp := by
  cases hd with
  | op o => show inV (.str o.str) [.str "call", .str "ring"] = false; cases o <;> decide +kernel
  | call m => show inV (.str "call") [.str "call", .str "ring"] = true; decide +kernel
  | ring p => show inV (.str "ring") [.str "call", .str "ring"] = true; decide +kernel
end V


set_option Elab.async false
set_option linter.all false
set_option maxRecDepth 100000
set_option maxHeartbeats 400000
namespace V
open PySem PySem.Spec PyProof.Rows L2 Evl TL NumText
theorem words_len {M : Nat} (hM : M ≤ 1000000) {h : Hd} {ts : List Tm} (hh : h.ok M ts.length) (hks : ∀ t ∈ ts, t.Ok M) (hz : (Tm.node h ts).size ≤ 1000) : ((h.S :: ts.map Tm.txt).map (·.length)).sum + (h.S :: ts.map Tm.txt).length ≤ 100000 := by
  have each : ∀ us : List Tm, (∀ u ∈ us, u.Ok M) → ((us.map Tm.txt).map (·.length)).sum ≤ 16 * Tm.sizes us := by
    intro us
    induction us with
    | nil => intro _; exact Nat.le_refl _
    | cons u us ih =>
      intro hu
      have i1 := ih fun v hv => hu v (List.mem_cons_of_mem _ hv)
      have i2 := txt_len hM u (hu u (List.mem_cons_self ..))
      show u.txt.length + ((us.map Tm.txt).map (·.length)).sum ≤ 16 * (u.size + Tm.sizes us)
      omega
  have i1 := each ts hks
  have i2 := Hd.S_len hh hM
  have few := hh.le
  have tsz : (Tm.node h ts).size = 1 + Tm.sizes ts := rfl
  rw [List.map_cons, List.sum_cons, List.length_cons, List.length_map]
  omega
theorem node_txt (h : Hd) (ts : List Tm) : (Tm.node h ts).txt = ("(" : Str) ++ Str.join " " (h.S :: ts.map Tm.txt) ++ ")" := by
  show ("(" : Str) ++ Str.join " " (h.S :: Tm.txts ts) ++ ")" = _
  rw [txts_map]
def Sg (l : List Nat) : Prop := ∀ c ∈ l, c ∈ tl sgS
theorem Sg.app {l k : List Nat} (h : Sg l) (g : Sg k) : Sg (l ++ k) := fun c hc => (List.mem_append.mp hc).elim (h c) (g c)
theorem sg_nums (n : Nat) : Sg (TL.numL n) := fun c hc => by
  have r := TL.numL_digits n c hc
  have all : ∀ c : Nat, c < 58 → 48 ≤ c → c ∈ tl sgS := by decide +kernel
  exact all c (by omega) r.1
theorem sg_mk {m : Str} (h : isMk m) : Sg (tl m) := fun c hc => by
  have r := h.2 c hc
  have all : ∀ c : Nat, c < 123 → ((48 ≤ c ∧ c ≤ 57) ∨ (97 ≤ c ∧ c ≤ 122)) → c ∈ tl sgS := by decide +kernel
  exact all c (by omega) r
theorem sg_hd {M n : Nat} {h : Hd} (k : h.ok M n) : Sg (tl h.S) := by
  cases h with
  | op o => cases o <;> (unfold Sg; decide +kernel)
  | call m =>
    show Sg (tl (("#" : Str) ++ m))
    rw [tl_append]
    exact Sg.app (by unfold Sg; decide +kernel) (sg_mk k.1)
  | ring p =>
    show Sg (tl (("@" : Str) ++ nt p))
    rw [tl_append, tl_nt]
    exact Sg.app (by unfold Sg; decide +kernel) (sg_nums p)
theorem sg_join : ∀ l : List (List Nat), (∀ x ∈ l, Sg x) → Sg (joinL [32] l)
  | [], _ => fun c hc => by cases hc
  | [p], h => h p (List.mem_cons_self ..)
  | p :: q :: r, h => by
    show Sg (p ++ ([32] ++ joinL [32] (q :: r)))
    exact Sg.app (h p (List.mem_cons_self ..)) (Sg.app (by unfold Sg; decide +kernel) (sg_join (q :: r) fun x hx => h x (List.mem_cons_of_mem _ hx)))
theorem sg_txt {M : Nat} : ∀ t : Tm, t.Ok M → Sg (tl t.txt) := by
  refine Tm.ind (fun n k => ?_) (fun j k => ?_) fun h ts ih k => ?_
  · show Sg (tl (nt n))
    rw [tl_nt]
    exact sg_nums n
  · cases k with
    | arg hk =>
      show Sg (tl (letter j))
      match j, hk with
      | 0, _ => unfold Sg; decide +kernel
      | 1, _ => unfold Sg; decide +kernel
      | 2, _ => unfold Sg; decide +kernel
      | 3, _ => unfold Sg; decide +kernel
      | n + 4, h => omega
  · cases k with
    | node hh hks =>
      rw [node_txt, tl_append, tl_append, tl_join, show tl (" " : Str) = [32] by decide +kernel]
      refine Sg.app (Sg.app (by unfold Sg; decide +kernel) (sg_join _ fun x hx => ?_)) (by unfold Sg; decide +kernel)
      obtain ⟨s, hs, rfl⟩ := List.mem_map.mp hx
      rcases List.mem_cons.mp hs with rfl | hs
      · exact sg_hd hh
      · obtain ⟨u, hu, rfl⟩ := List.mem_map.mp hs
        exact ih u hu (hks u hu)
end V


set_option Elab.async false
set_option linter.all false
set_option maxRecDepth 100000
set_option maxHeartbeats 400000
namespace V
open PySem PySem.Spec PyProof.Rows L2 Evl TL NumText
def rInT (K : PySem.W.Frag) (i : Nat) (x y : Str) : TT := tTest (tOp (rIn K false) (tOp (rIxT K) (tVar i) (tC (.int 0))) (tTup (tCons (tC (.str x)) (tCons (tC (.str y)) tNil))))
/-- is the word of the term one of these? -/
theorem word_in {K : PySem.W.Frag} {i : Nat} {x y : Str} {σ : L2.St} {H : Hp} {Q : Bool → Hp → Prop} {v : V} {t : Tm} (hv : σ[i]? = some (some v)) (g : TmAt H v t) (q : ∀ H', Ex H H' → Q (inV (.str t.word) [.str x, .str y]) H') : rInT K i x y σ H Q := by
  obtain ⟨a, r, rfl, ha⟩ := g.head
  refine ⟨_, hv, a, _, 0, _, rfl, rfl, SqT.of ha, at0, sz 2, fun p1 hp1 => ⟨p1, _, rfl, .inr (SqT.of upd_same), rfl, rfl, _, rfl, ?_⟩⟩
  rw [if_neg (by decide)]
  exact q _ (Ex.new hp1)
def tParts (K : PySem.W.Frag) (i : Nat) : TE := tIf (rInT K i "call" "ring") (tOp (rIxT K) (tVar i) (tC (.int 2))) (tSl (rSlA K) (tVar i) (tPart (tC (.int 1))) tNoPart)
/-- the parts of a term, by this law's own words -/
theorem parts_go {K : PySem.W.Frag} {i : Nat} {σ : L2.St} {H : Hp} {Q : VK} {v : V} {h : Hd} {ts : List Tm} (hv : σ[i]? = some (some v)) (g : TmAt H v (.node h ts)) (ne : h.notOp = true ∨ ts ≠ [] ∨ True)
    (q : ∀ (H' : Hp) (p : Addr) (ws : List V), Ex H H' → H' p = some (.tup ws) → TmsAt H' ws ts → Q (.ref p) H') : tParts K i σ H Q := by
  refine word_in hv g fun H1 e1 => ?_
  rw [word_call]
  cases g with
  | @op a o ws _ hh hs =>
    refine iteF ⟨_, hv, 1, rfl, a, _, rfl, SqT.of (e1 _ _ hh), fun z => ?_, fun _ p hp => ?_⟩
    · have z1 : HT.sIx (V.str o.str :: ws).length 0 (some ((1 : Nat) : Int)) = 0 := z.1
      rw [HT.sIx_nat, List.length_cons] at z1
      omega
    · rw [cut_tail]
      exact q _ p ws (e1.trans (Ex.new hp)) upd_same (hs.ex (e1.trans (Ex.new hp)))
  | @call a b m ws _ hh h2 hs => exact iteT ⟨_, hv, a, _, 2, _, rfl, rfl, SqT.of (e1 _ _ hh), rfl, q _ b ws e1 (e1 _ _ h2) (hs.ex e1)⟩
  | @ring a b m ws _ hh h2 hs => exact iteT ⟨_, hv, a, _, 2, _, rfl, rfl, SqT.of (e1 _ _ hh), rfl, q _ b ws e1 (e1 _ _ h2) (hs.ex e1)⟩
/-- the marks of a term, as they stand -/
def spMarksL (n : Nat) : Sp := fun vs H Q _ => ∃ (v : V) (t : Tm) (M : Nat), vs = [v] ∧ TmAt H v t ∧ t.Ok M ∧ t.deep ≤ n ∧ t.size ≤ 1000 ∧ ∀ (H' : Hp) (p : Addr), H p = none → Ex H H' → H' p = some (.lst (t.marks.map V.str)) → Q (.ref p) H'
theorem mks_leaf {t : Tm} (h : ∀ hd ts, t ≠ .node hd ts) : t.marks = [] ∧ t.places = [] ∧ t.size = 1 := by
  cases t with
  | num n => exact ⟨rfl, rfl, rfl⟩
  | arg n => exact ⟨rfl, rfl, rfl⟩
  | node hd ts => exact absurd rfl (h hd ts)
theorem line2 {n : Nat} (h : n ≤ 1000000) : n ≤ sizeLine := by
  have big : sizeLine = 16777216 := sizeLine_eq
  omega
theorem flat_leS {f : Tm → List Str} (hf : ∀ t, (f t).length ≤ t.size) (ts : List Tm) : (ts.flatMap f).length ≤ Tm.sizes ts := by
  induction ts with
  | nil => exact Nat.le_refl _
  | cons t ts ih =>
    rw [List.flatMap_cons, List.length_append]
    have := hf t
    show _ ≤ t.size + Tm.sizes ts
    omega
theorem flat_leN {f : Tm → List Nat} (hf : ∀ t, (f t).length ≤ t.size) (ts : List Tm) : (ts.flatMap f).length ≤ Tm.sizes ts := by
  induction ts with
  | nil => exact Nat.le_refl _
  | cons t ts ih =>
    rw [List.flatMap_cons, List.length_append]
    have := hf t
    show _ ≤ t.size + Tm.sizes ts
    omega
theorem ms_le (h : Hd) : h.ms.length ≤ 1 := by cases h <;> first | exact Nat.le_refl 1 | exact Nat.zero_le 1
theorem ps_le (h : Hd) : h.ps.length ≤ 1 := by cases h <;> first | exact Nat.le_refl 1 | exact Nat.zero_le 1
theorem sum_size (ts : List Tm) : ((ts.map fun t => (t.size : Int))).sum = (Tm.sizes ts : Int) := by
  induction ts with
  | nil => rfl
  | cons t ts ih =>
    rw [List.map_cons, List.sum_cons, ih]
    show (t.size : Int) + (Tm.sizes ts : Int) = ((t.size + Tm.sizes ts : Nat) : Int)
    omega
theorem word_is_call (h : Hd) (ts : List Tm) : decide ((Tm.node h ts).word = "call") = (match h with | .call _ => true | _ => false) := by
  cases h with
  | op o => show decide (o.str = "call") = false; cases o <;> decide +kernel
  | call m => exact decide_eq_true rfl
  | ring p => show decide (("ring" : Str) = "call") = false; decide +kernel
theorem word_is_ring (h : Hd) (ts : List Tm) : decide ((Tm.node h ts).word = "ring") = (match h with | .ring _ => true | _ => false) := by
  cases h with
  | op o => show decide (o.str = "ring") = false; cases o <;> decide +kernel
  | ring m => exact decide_eq_true rfl
  | call p => show decide (("call" : Str) = "ring") = false; decide +kernel
end V


set_option Elab.async false
set_option linter.all false
set_option maxRecDepth 100000
set_option maxHeartbeats 4000000
namespace V
open PySem PySem.Spec PyProof.Rows L2 Evl TL NumText
/-! ### other places, from left to right -/
def Hd.pl (h : Hd) (l : List Nat) : Hd := match h with
  | .ring _ => .ring (l.headD 0)
  | h => h
mutual
def Tm.pl : Tm → List Nat → Tm
  | .num n, _ => .num n
  | .arg n, _ => .arg n
  | .node h ts, l => .node (h.pl l) (Tm.plc ts (l.drop h.ps.length))
def Tm.plc : List Tm → List Nat → List Tm
  | [], _ => []
  | t :: ts, l => t.pl l :: Tm.plc ts (l.drop t.places.length)
end
theorem plc_len : ∀ (ts : List Tm) (l : List Nat), (Tm.plc ts l).length = ts.length
  | [], _ => rfl
  | t :: ts, l => by
    show (Tm.plc ts (l.drop t.places.length)).length + 1 = ts.length + 1
    rw [plc_len ts]
/-- those of the first i parts -/
theorem plc_take : ∀ (ts : List Tm) (l : List Nat) (i : Nat), Tm.plc (ts.take i) l = (Tm.plc ts l).take i
  | [], l, i => by rw [List.take_nil]; exact (List.take_nil ..).symm
  | t :: ts, l, 0 => rfl
  | t :: ts, l, i + 1 => by
    show t.pl l :: Tm.plc (ts.take i) (l.drop t.places.length) = t.pl l :: (Tm.plc ts (l.drop t.places.length)).take i
    rw [plc_take ts]
theorem plc_snoc : ∀ (ts : List Tm) (l : List Nat) (t : Tm), Tm.plc (ts ++ [t]) l = Tm.plc ts l ++ [t.pl (l.drop (ts.flatMap Tm.places).length)]
  | [], l, t => rfl
  | u :: ts, l, t => by
    show u.pl l :: Tm.plc (ts ++ [t]) (l.drop u.places.length) = u.pl l :: (Tm.plc ts (l.drop u.places.length) ++ _)
    rw [plc_snoc ts, List.drop_drop, List.flatMap_cons, List.length_append]
def spPlaced (n : Nat) : Sp := fun vs H Q _ => ∃ (v : V) (t : Tm) (pa : Addr) (l : List Nat), vs = [v, .ref pa] ∧ TmAt H v t ∧ t.Ok 1000 ∧ t.deep ≤ n ∧ H pa = some (.lst (intsV l)) ∧ t.places.length ≤ l.length ∧ l.length ≤ 1000 ∧
  ∀ (H' : Hp) (v' : V), But pa H H' → H' pa = some (.lst (intsV (l.drop t.places.length))) → TmAt H' v' (t.pl l) → Q v' H'
/-- what the parts come to -/
def Pls (H : Hp) (pa Dl : Addr) (ts : List Tm) (l : List Nat) (i : Nat) (H3 : Hp) : Prop := But pa H H3 ∧ H3 pa = some (.lst (intsV (l.drop ((ts.take i).flatMap Tm.places).length))) ∧ ∃ ws, H3 Dl = some (.lst ws) ∧ TmsAt H3 ws (Tm.plc (ts.take i) l)
end V


set_option Elab.async false
set_option linter.all false
set_option maxRecDepth 100000
set_option maxHeartbeats 4000000
namespace V
open PySem PySem.Spec PyProof.Rows L2 Evl TL NumText
/-! ### bodies twice, calls of either of both -/
theorem nearH_of {cs : List Nat} {p c : Nat} (h : cs[p]? = some c) : (Hd.ring p, c) ∈ nearH cs := by
  unfold nearH
  exact List.mem_map.mpr ⟨(c, p), List.mem_zipIdx_iff_getElem?.mpr h, rfl⟩
def TwinP (n : Nat) (ps l : List Nat) : Prop := ps.length ≤ l.length ∧ ∀ (j x y : Nat), ps[j]? = some x → l[j]? = some y → y = x ∨ y = x + n
theorem TwinP.split {n : Nat} {a b l : List Nat} (h : TwinP n (a ++ b) l) : TwinP n a l ∧ TwinP n b (l.drop a.length) := by
  obtain ⟨h1, h2⟩ := h
  rw [List.length_append] at h1
  refine ⟨⟨by omega, fun j x y hx hy => h2 j x y ?_ hy⟩, by rw [List.length_drop]; omega, fun j x y hx hy => h2 (a.length + j) x y ?_ ?_⟩
  · rw [List.getElem?_append_left (List.getElem?_eq_some_iff.mp hx).1]
    exact hx
  · rw [List.getElem?_append_right (Nat.le_add_right _ _), Nat.add_sub_cancel_left]
    exact hx
  · rw [← List.getElem?_drop]
    exact hy
theorem By.pl {cs : List Nat} {calls : List (Hd × Nat)} (hc : CallsOk calls) : ∀ (t : Tm) (l : List Nat) (many : Nat), By many (nearH cs ++ calls) t → TwinP cs.length t.places l → By many (nearH (cs ++ cs) ++ calls) (t.pl l) := by
  intro t
  induction t using Tm.ind with
  | h1 k =>
    intro l many h _
    cases h with
    | num h => exact .num h
  | h2 k =>
    intro l many h _
    cases h with
    | arg h => exact .arg h
  | h3 h ts ih =>
    intro l many hb ht
    rw [places_node] at ht
    obtain ⟨t1, t2⟩ := ht.split
    have all : ∀ (us : List Tm) (l : List Nat), (∀ u ∈ us, u ∈ ts) → (∀ u ∈ us, By many (nearH cs ++ calls) u) → TwinP cs.length (us.flatMap Tm.places) l → ∀ u ∈ Tm.plc us l, By many (nearH (cs ++ cs) ++ calls) u := by
      intro us
      induction us with
      | nil => intro l _ _ _ u hu; cases hu
      | cons v us ih2 =>
        intro l hm hB hT u hu
        rw [List.flatMap_cons] at hT
        obtain ⟨s1, s2⟩ := hT.split
        rcases List.mem_cons.mp hu with rfl | hu
        · exact ih v (hm v (List.mem_cons_self ..)) l many (hB v (List.mem_cons_self ..)) s1
        · exact ih2 _ (fun u hu => hm u (List.mem_cons_of_mem _ hu)) (fun u hu => hB u (List.mem_cons_of_mem _ hu)) s2 u hu
    show By many _ (.node (h.pl l) (Tm.plc ts (l.drop h.ps.length)))
    cases hb with
    | op ha hk => exact .op (by rw [plc_len]; exact ha) (all ts _ (fun _ z => z) hk t2)
    | hd ha hk =>
      refine .hd ?_ (all ts _ (fun _ z => z) hk t2)
      rw [plc_len]
      rcases List.mem_append.mp ha with ha | ha
      · obtain ⟨p, c, e, hp⟩ := nearH_mem ha
        cases e
        have l1 : 0 < l.length := by
          have := t1.1
          exact this
        obtain ⟨y, l', rfl⟩ : ∃ y l', l = y :: l' := by
          cases l with
          | nil => cases l1
          | cons y l' => exact ⟨y, l', rfl⟩
        refine List.mem_append.mpr (.inl (nearH_of (p := y) ?_))
        have pl : p < cs.length := (List.getElem?_eq_some_iff.mp hp).1
        rcases t1.2 0 p y rfl rfl with e | e
        · rw [e, List.getElem?_append_left pl]
          exact hp
        · rw [e, List.getElem?_append_right (Nat.le_add_left _ _), Nat.add_sub_cancel]
          exact hp
      · obtain ⟨m, e, _⟩ := hc _ ha
        cases (show h = .call m from e)
        exact List.mem_append.mpr (.inr ha)
theorem pl_deep : ∀ (t : Tm) (l : List Nat), (t.pl l).deep = t.deep ∧ (t.pl l).size = t.size := by
  intro t
  induction t using Tm.ind with
  | h1 k => exact fun l => ⟨rfl, rfl⟩
  | h2 k => exact fun l => ⟨rfl, rfl⟩
  | h3 h ts ih =>
    intro l
    have all : ∀ (us : List Tm) (l : List Nat), (∀ u ∈ us, u ∈ ts) → Tm.deeps (Tm.plc us l) = Tm.deeps us ∧ Tm.sizes (Tm.plc us l) = Tm.sizes us := by
      intro us
      induction us with
      | nil => exact fun _ _ => ⟨rfl, rfl⟩
      | cons v us ih2 =>
        intro l hm
        obtain ⟨a1, a2⟩ := ih2 (l.drop v.places.length) fun u hu => hm u (List.mem_cons_of_mem _ hu)
        obtain ⟨b1, b2⟩ := ih v (hm v (List.mem_cons_self ..)) l
        exact ⟨by show max (v.pl l).deep (Tm.deeps (Tm.plc us _)) = max v.deep (Tm.deeps us); rw [a1, b1], by show (v.pl l).size + Tm.sizes (Tm.plc us _) = v.size + Tm.sizes us; rw [a2, b2]⟩
    obtain ⟨a1, a2⟩ := all ts (l.drop h.ps.length) fun _ z => z
    exact ⟨by show 1 + Tm.deeps (Tm.plc ts _) = 1 + Tm.deeps ts; rw [a1], by show 1 + Tm.sizes (Tm.plc ts _) = 1 + Tm.sizes ts; rw [a2]⟩
/-- without places it is the shape -/
theorem pl_zero : ∀ (t : Tm) (l : List Nat), (∀ x ∈ l, x = 0) → t.pl l = t.re shapeF := by
  intro t
  induction t using Tm.ind with
  | h1 k => exact fun l _ => rfl
  | h2 k => exact fun l _ => rfl
  | h3 h ts ih =>
    intro l hl
    have all : ∀ (us : List Tm) (l : List Nat), (∀ u ∈ us, u ∈ ts) → (∀ x ∈ l, x = 0) → Tm.plc us l = Tm.res shapeF us := by
      intro us
      induction us with
      | nil => exact fun _ _ _ => rfl
      | cons v us ih2 =>
        intro l hm hl
        show v.pl l :: Tm.plc us _ = v.re shapeF :: Tm.res shapeF us
        rw [ih v (hm v (List.mem_cons_self ..)) l hl, ih2 _ (fun u hu => hm u (List.mem_cons_of_mem _ hu)) fun x hx => hl x (List.mem_of_mem_drop hx)]
    show Tm.node (h.pl l) (Tm.plc ts (l.drop h.ps.length)) = .node (h.re shapeF) (Tm.res shapeF ts)
    rw [all ts _ (fun _ z => z) fun x hx => hl x (List.mem_of_mem_drop hx)]
    cases h with
    | op o => rfl
    | call m => rfl
    | ring p =>
      have : l.headD 0 = 0 := by
        cases l with
        | nil => rfl
        | cons x l => exact hl x (List.mem_cons_self ..)
      show Tm.node (.ring (l.headD 0)) _ = .node (.ring 0) _
      rw [this]
/-- what is true of all places of fitting bodies -/
theorem By.places {many : Nat} {cs : List Nat} {calls : List (Hd × Nat)} (hc : CallsOk calls) : ∀ (t : Tm), By many (nearH cs ++ calls) t → ∀ p ∈ t.places, p < cs.length := by
  intro t
  induction t using Tm.ind with
  | h1 k => exact fun _ p hp => by cases hp
  | h2 k => exact fun _ p hp => by cases hp
  | h3 h ts ih =>
    intro hb p hp
    rw [places_node] at hp
    have sub : (∀ t ∈ ts, By many (nearH cs ++ calls) t) → p ∈ ts.flatMap Tm.places → p < cs.length := fun hk hp => by
      obtain ⟨u, hu, hpu⟩ := List.mem_flatMap.mp hp
      exact ih u hu (hk u hu) p hpu
    cases hb with
    | op ha hk => exact (List.mem_append.mp hp).elim (fun z => by cases z) (sub hk)
    | hd ha hk =>
      rcases List.mem_append.mp hp with hp | hp
      · rcases List.mem_append.mp ha with ha | ha
        · obtain ⟨r, c, e, hr⟩ := nearH_mem ha
          cases e
          cases List.mem_singleton.mp (show p ∈ [r] from hp)
          exact (List.getElem?_eq_some_iff.mp hr).1
        · obtain ⟨m, e, _⟩ := hc _ ha
          cases (show h = .call m from e)
          cases hp
      · exact sub hk hp
/-- over b, and then over what is new -/
theorem But.also {H0 H1 H2 : Hp} {b d : Addr} (u : But b H0 H1) (hd : H0 d = none) (v : But d H1 H2) : But b H0 H2 := fun a o na ha => by
  have nd : a ≠ d := fun z => by rw [z, hd] at ha; cases ha
  exact v a o nd (u a o na ha)
theorem Box.but2 {H H' : Hp} {b d : Addr} {n : Nat} (h : Box H b n) (ne : b ≠ d) (u : But d H H') : Box H' b n := by
  obtain ⟨x, y, z, q, r⟩ := h
  exact ⟨x, y, z, u _ _ ne q, r⟩
def spTwins (K : PySem.W.Frag) (D S : Nat) : Sp := fun vs H Q _ => ∃ (b ba : Addr) (n : Nat) (xs : List V) (bs : List (Nat × Tm)) (calls : List (Hd × Nat)), vs = [.ref b, .ref ba] ∧ Box H b (n + 2 * (bs.length * S)) ∧ ba ≠ b ∧ H ba = some (.lst xs) ∧ BodsAt H xs bs ∧
  1 ≤ bs.length ∧ bs.length ≤ 100 ∧ Fits calls bs ∧ CallsOk calls ∧ (∀ x ∈ bs, x.2.deep ≤ D ∧ x.2.size ≤ S) ∧
  ∀ (H' : Hp) (p : Addr) (ys : List V) (bs' : List (Nat × Tm)), But b H H' → Box H' b n → H p = none → H' p = some (.lst ys) → BodsAt H' ys bs' → bs'.length = 2 * bs.length → Fits calls bs' → (∀ x ∈ bs', x.2.deep ≤ D ∧ x.2.size ≤ S) → Q (.ref p) H'
end V


set_option Elab.async false
set_option linter.all false
set_option maxRecDepth 100000
set_option maxHeartbeats 4000000
namespace V
open PySem PySem.Spec PyProof.Rows L2 Evl TL NumText
def spSomeMarks (K : PySem.W.Frag) : Sp := fun vs H Q _ => ∃ (b : Addr) (n many : Nat), vs = [.ref b, .int (many : Int)] ∧ Box H b (n + many * 7) ∧ many ≤ 80 ∧
  ∀ (H' : Hp) (p : Addr) (calls : List (Hd × Nat)), But b H H' → Box H' b n → H p = none → HdsL H' p calls → CallsOk calls → calls.length = many → Q (.ref p) H'
end V


set_option Elab.async false
set_option linter.all false
set_option maxRecDepth 100000
set_option maxHeartbeats 4000000
namespace V
open PySem PySem.Spec PyProof.Rows L2 Evl TL NumText
def spRing8 (K : PySem.W.Frag) : Sp := fun vs H Q _ => ∃ (b cp : Addr) (n size : Nat) (calls : List (Hd × Nat)), vs = [.ref b, .int (size : Int), .ref cp] ∧ Box H b (n + size * 400) ∧ 1 ≤ size ∧ size ≤ 12 ∧
  cp ≠ b ∧ HdsL H cp calls ∧ CallsOk calls ∧ calls.length ≤ 80 ∧ ∀ (H' : Hp) (p : Addr) (xs : List V) (bs : List (Nat × Tm)), But b H H' → Box H' b n → H p = none → H' p = some (.lst xs) → BodsAt H' xs bs → bs.length = size → Fits calls bs →
    (∀ x ∈ bs, x.2.deep ≤ 5 ∧ x.2.size ≤ 85) → Q (.ref p) H'
end V


set_option Elab.async false
set_option linter.all false
set_option maxRecDepth 100000
set_option maxHeartbeats 4000000
namespace V
open PySem PySem.Spec PyProof.Rows L2 Evl TL NumText
def spAlike (K : PySem.W.Frag) : Sp := fun vs H Q _ => ∃ (b : Addr) (n size : Nat), vs = [.ref b, .int (size : Int)] ∧ Box H b (n + size * 2) ∧ 1 ≤ size ∧ size ≤ 12 ∧
  ∀ (H' : Hp) (p : Addr) (xs : List V) (bs : List (Nat × Tm)), But b H H' → Box H' b n → H p = none → H' p = some (.lst xs) → BodsAt H' xs bs → bs.length = size → Fits [] bs →
    (∀ x ∈ bs, x.2.deep ≤ 5 ∧ x.2.size ≤ 85) → Q (.ref p) H'
theorem Fits.more {calls : List (Hd × Nat)} {bs : List (Nat × Tm)} (h : Fits [] bs) : Fits calls bs := fun x hx => ⟨(h x hx).1, (h x hx).2.more fun y hy => by rw [List.append_nil] at hy; exact List.mem_append.mpr (.inl hy)⟩
end V


set_option Elab.async false
set_option linter.all false
set_option maxRecDepth 100000
set_option maxHeartbeats 4000000
namespace V
open PySem PySem.Spec PyProof.Rows L2 Evl TL NumText
def spDrawn8 (K : PySem.W.Frag) : Sp := fun vs H Q _ => ∃ (b : Addr) (n : Nat), vs = [.ref b] ∧ Box H b (n + 5000) ∧
  ∀ (H' : Hp) (p : Addr) (xs : List V) (bs : List (Nat × Tm)) (calls : List (Hd × Nat)), But b H H' → Box H' b n → H p = none → H' p = some (.lst xs) → BodsAt H' xs bs → 1 ≤ bs.length → bs.length ≤ 12 → Fits calls bs → CallsOk calls →
    (∀ x ∈ bs, x.2.deep ≤ 5 ∧ x.2.size ≤ 85) → Q (.ref p) H'
end V


set_option Elab.async false
set_option linter.all false
set_option maxRecDepth 100000
set_option maxHeartbeats 4000000
namespace V
open PySem PySem.Spec PyProof.Rows L2 Evl TL NumText
theorem pi_listK {X : Cx} {K : PySem.W.Frag} {tg l : Expr} {tl : TE} (hK : X.K = K) (hl : PE X l tl) : PI X tg l (iList K tl) := by
  subst hK
  exact pi_list hl
def pairD (G : List Nat) (g : Nat) (l : List Nat) : PyData := .tuple [.int (g : Int), intsD (l.map fun x => G.getD x 0)]
def pairsD (G : List Nat) (L : List (List Nat)) : List PyData := List.zipWith (pairD G) G L
def partF (G : List Nat) (L : List (List Nat)) : List Nat := numsF (pairsD G L)
def spParted (K : PySem.W.Frag) : Sp := fun vs H Q _ => ∃ (g l : Addr) (G : List Nat) (L : List (List Nat)), vs = [.ref g, .ref l] ∧ SqL K H g (intsV G) ∧ Dp K H (.ref l) (leadsD L) ∧ G.length = L.length ∧ G.length ≤ 100 ∧ (∀ n ∈ L, n.length ≤ 1000 ∧ ∀ x ∈ n, x < G.length) ∧
  ∀ (H' : Hp) (p : Addr), H p = none → Ex H H' → H' p = some (.lst (intsV (partF G L))) → Q (.ref p) H'
theorem pair_cmp (G : List Nat) (g : Nat) (l : List Nat) : CmpD (pairD G g l) := by
  have li : ∀ l : List Nat, PyData.canLayAll0 (l.map fun x : Nat => PyData.int (x : Int)) = true ∧ PyData.depthAll (l.map fun x : Nat => PyData.int (x : Int)) = 0 := by
    intro l
    induction l with
    | nil => exact ⟨by simp [PyData.canLayAll0], by simp [PyData.depthAll]⟩
    | cons x l ih => exact ⟨by simp [PyData.canLayAll0, PyData.canLay0, ih.1], by simp [PyData.depthAll, PyData.depth, ih.2]⟩
  unfold CmpD pairD intsD
  refine ⟨?_, ?_⟩
  · simp [PyData.canLay0, PyData.canLayAll0]
    have := (li (l.map fun x => G.getD x 0)).1
    rw [List.map_map] at this
    exact this
  · simp only [PyData.depth, PyData.depthAll]
    rw [(li _).2]
    decide
theorem pairs_len {G : List Nat} {L : List (List Nat)} (h : G.length = L.length) : (pairsD G L).length = G.length := by
  unfold pairsD
  rw [List.length_zipWith]
  omega
theorem pairs_get {G : List Nat} {L : List (List Nat)} {i : Nat} {g : Nat} {l : List Nat} (h1 : G[i]? = some g) (h2 : L[i]? = some l) : (pairsD G L)[i]? = some (pairD G g l) := by
  unfold pairsD
  rw [List.getElem?_zipWith, h1, h2]
theorem pairs_cmp {G : List Nat} {L : List (List Nat)} : ∀ d ∈ pairsD G L, CmpD d := fun d hd => by
  obtain ⟨i, hi, e⟩ := List.getElem_of_mem hd
  have h : (pairsD G L)[i]? = some d := by rw [List.getElem?_eq_getElem hi, e]
  unfold pairsD at h
  rw [List.getElem?_zipWith] at h
  cases h1 : G[i]? with
  | none => rw [h1] at h; cases h
  | some g =>
    cases h2 : L[i]? with
    | none => rw [h1, h2] at h; cases h
    | some l =>
      rw [h1, h2] at h
      cases h
      exact pair_cmp _ _ _
end V


set_option Elab.async false
set_option linter.all false
set_option maxRecDepth 100000
set_option maxHeartbeats 4000000
namespace V
open PySem PySem.Spec PyProof.Rows L2 Evl TL NumText
/-- the shapes of bodies -/
def shapesD (bs : List (Nat × Tm)) : List PyData := (bs.map (reB shapeF)).map bodD
/-- the groups, parted k times -/
def sayIt (bs : List (Nat × Tm)) : Nat → List Nat
  | 0 => numsF (shapesD bs)
  | k + 1 => partF (sayIt bs k) (leadsF bs)
theorem say_len (bs : List (Nat × Tm)) : ∀ k, (sayIt bs k).length = bs.length
  | 0 => by
    show (numsF (shapesD bs)).length = _
    unfold numsF shapesD
    rw [List.length_map, List.length_map, List.length_map]
  | k + 1 => by
    have ih := say_len bs k
    show (numsF (pairsD (sayIt bs k) (leadsF bs))).length = _
    unfold numsF
    rw [List.length_map, pairs_len (by unfold leadsF; rw [List.length_map]; exact ih), ih]
theorem ints_eqv : ∀ A B : List Nat, PyData.eqvAll (A.map fun x : Nat => PyData.int (x : Int)) (B.map fun x : Nat => PyData.int (x : Int)) = decide (A = B)
  | [], [] => by simp [PyData.eqvAll]
  | [], y :: B => by simp [PyData.eqvAll]
  | x :: A, [] => by simp [PyData.eqvAll]
  | x :: A, y :: B => by
    rw [List.map_cons, List.map_cons, PyData.eqvAll, ints_eqv A B]
    have e : PyData.eqv (.int (x : Int)) (.int (y : Int)) = decide (x = y) := by
      show ((x : Int) == (y : Int)) = _
      by_cases c : x = y
      · rw [c, decide_eq_true rfl]
        exact beq_self_eq_true _
      · rw [decide_eq_false c]
        exact beq_eq_false_iff_ne.mpr fun z => c (by omega)
    rw [e, ← Bool.decide_and, decide_eq_decide, List.cons.injEq]
theorem ints_eq (A B : List Nat) : PyData.eqv (intsD A) (intsD B) = decide (A = B) := by
  unfold intsD
  rw [PyData.eqv]
  exact ints_eqv A B
theorem ints_shaped (A : List Nat) : SeqAt.shaped (intsD A) = true := cmp_list fun d hd => by
  obtain ⟨x, _, rfl⟩ := List.mem_map.mp hd
  exact ⟨by simp [PyData.canLay0], by simp [PyData.depth]⟩
theorem re_ok {hf : Nat → Hd} (hh : ∀ p z, (Hd.ring p).ok 11 z → (hf p).ok 11 z) : ∀ t : Tm, t.Ok 11 → (t.re hf).Ok 11 := by
  refine Tm.ind (fun n k => ?_) (fun n k => ?_) fun h ts ih k => ?_
  · exact k
  · exact k
  · cases k with
    | node h1 h2 =>
      show (Tm.node (h.re hf) (Tm.res hf ts)).Ok 11
      rw [res_map]
      refine .node ?_ fun u hu => ?_
      · rw [List.length_map]
        cases h with
        | op o => exact h1
        | call m => exact h1
        | ring p => exact hh p _ h1
      · obtain ⟨t, ht, rfl⟩ := List.mem_map.mp hu
        exact ih t ht (h2 t ht)
theorem re_deep (hf : Nat → Hd) : ∀ t : Tm, (t.re hf).deep = t.deep := by
  have each : ∀ ts : List Tm, (∀ t ∈ ts, (t.re hf).deep = t.deep) → Tm.deeps (ts.map (Tm.re hf)) = Tm.deeps ts := by
    intro ts
    induction ts with
    | nil => exact fun _ => rfl
    | cons t ts ih =>
      intro h
      show max (t.re hf).deep (Tm.deeps (ts.map (Tm.re hf))) = max t.deep (Tm.deeps ts)
      rw [h t (List.mem_cons_self ..), ih fun u hu => h u (List.mem_cons_of_mem _ hu)]
  refine Tm.ind (fun n => rfl) (fun n => rfl) fun h ts ih => ?_
  show 1 + Tm.deeps (Tm.res hf ts) = 1 + Tm.deeps ts
  rw [res_map, each ts ih]
theorem shapes_cmp {bs : List (Nat × Tm)} (ok : ∀ x ∈ bs, x.2.Ok 11 ∧ x.2.deep ≤ 8) : ∀ d ∈ shapesD bs, CmpD d := fun d hd => by
  unfold shapesD at hd
  rw [List.map_map] at hd
  obtain ⟨x, hx, rfl⟩ := List.mem_map.mp hd
  obtain ⟨o, dd⟩ := ok x hx
  have o2 : (x.2.re shapeF).Ok 11 := re_ok (hf := shapeF) (fun p z h => ⟨Nat.zero_le _, h.2⟩) x.2 o
  have ly := py_lay (x.2.re shapeF) o2
  rw [re_deep] at ly
  refine ⟨?_, ?_⟩
  · show PyData.canLay0 (.tuple [.int (x.1 : Int), (x.2.re shapeF).py]) = true
    simp [PyData.canLay0, PyData.canLayAll0, ly.1]
  · show PyData.depth (.tuple [.int (x.1 : Int), (x.2.re shapeF).py]) ≤ 62
    simp only [PyData.depth, PyData.depthAll]
    have := ly.2
    omega
def spSay (K : PySem.W.Frag) : Sp := fun vs H Q _ => ∃ (a : Addr) (xs : List V) (bs : List (Nat × Tm)) (N : Nat), vs = [.ref a] ∧ SeqAt' K H a xs ∧ BodsAt H xs bs ∧ bs.length ≤ 100 ∧ (∀ x ∈ bs, x.2.Ok 11 ∧ x.2.deep ≤ 8 ∧ x.2.size ≤ 1000) ∧
  (∀ x ∈ bs, ∀ p ∈ x.2.places, p < bs.length) ∧ (∀ x ∈ bs, x.2.places.length ≤ 1000) ∧ sayIt bs (N + 1) = sayIt bs N ∧ (∀ k, k < N → sayIt bs (k + 1) ≠ sayIt bs k) ∧
  ∀ (H' : Hp) (p : Addr), H p = none → Ex H H' → H' p = some (.lst (intsV (sayIt bs N))) → Q (.ref p) H'
end V


set_option Elab.async false
set_option linter.all false
set_option maxRecDepth 100000
set_option maxHeartbeats 4000000
namespace V
open PySem PySem.Spec PyProof.Rows L2 Evl TL NumText
/-! ### saying comes to an end -/
def atD (ds : List PyData) (i : Nat) : PyData := ds.getD i .none
theorem at_some {ds : List PyData} {i : Nat} {d : PyData} (h : ds[i]? = some d) : atD ds i = d := by
  unfold atD
  rw [List.getD_eq_getElem?_getD, h]
  rfl
/-- what is met, by the places -/
theorem met_places {ds es : List PyData} (hl : ds.length = es.length) (hk : ∀ i j, i < ds.length → j < ds.length → PyData.eqv (atD ds i) (atD ds j) = PyData.eqv (atD es i) (atD es j)) :
    ∀ n, n ≤ ds.length → ∃ I : List Nat, (∀ i ∈ I, i < ds.length) ∧ metD [] (ds.take n) = I.map (atD ds) ∧ metD [] (es.take n) = I.map (atD es)
  | 0, _ => ⟨[], (fun i hi => by cases hi), rfl, rfl⟩
  | n + 1, h => by
    obtain ⟨I, h1, h2, h3⟩ := met_places hl hk n (by omega)
    have a1 : ds[n]? = some ds[n] := List.getElem?_eq_getElem (by omega)
    have a2 : es[n]? = some (es[n]'(by omega)) := List.getElem?_eq_getElem (by omega)
    rw [take_more a1, take_more a2, metD_add, metD_add, h2, h3, ← at_some a1, ← at_some a2]
    have same : ((I.map (atD ds)).any fun z => PyData.eqv z (atD ds n)) = ((I.map (atD es)).any fun z => PyData.eqv z (atD es n)) := by
      rw [List.any_map, List.any_map]
      clear h2 h3
      induction I with
      | nil => rfl
      | cons x I ih =>
        rw [List.any_cons, List.any_cons, ih fun i hi => h1 i (List.mem_cons_of_mem _ hi)]
        have e := hk x n (h1 x (List.mem_cons_self ..)) (by omega)
        show (PyData.eqv (atD ds x) (atD ds n) || _) = (PyData.eqv (atD es x) (atD es n) || _)
        rw [e]
    cases c : ((I.map (atD ds)).any fun z => PyData.eqv z (atD ds n)) with
    | true =>
      rw [← same, c]
      exact ⟨I, h1, rfl, rfl⟩
    | false =>
      rw [← same, c]
      refine ⟨I ++ [n], fun i hi => ?_, ?_, ?_⟩
      · rcases List.mem_append.mp hi with hi | hi
        · exact h1 i hi
        · rw [List.mem_singleton.mp hi]; omega
      · rw [List.map_append]; rfl
      · rw [List.map_append]; rfl
/-- numbers are by what is alike, no more -/
theorem nums_same {ds es : List PyData} (hl : ds.length = es.length) (hk : ∀ i j, i < ds.length → j < ds.length → PyData.eqv (atD ds i) (atD ds j) = PyData.eqv (atD es i) (atD es j)) : numsF ds = numsF es := by
  obtain ⟨I, h1, h2, h3⟩ := met_places hl hk ds.length (Nat.le_refl _)
  rw [List.take_length] at h2
  rw [hl, List.take_length] at h3
  unfold numsF
  rw [h2, h3]
  refine List.ext_getElem? fun i => ?_
  rw [List.getElem?_map, List.getElem?_map]
  by_cases c : i < ds.length
  · have a1 : ds[i]? = some ds[i] := List.getElem?_eq_getElem c
    have a2 : es[i]? = some (es[i]'(by omega)) := List.getElem?_eq_getElem (by omega)
    rw [a1, a2, ← at_some a1, ← at_some a2]
    show some _ = some _
    congr 1
    unfold numOfD
    clear h2 h3
    induction I with
    | nil => rfl
    | cons x I ih =>
      rw [List.map_cons, List.map_cons, List.findIdx_cons, List.findIdx_cons, hk x i (h1 x (List.mem_cons_self ..)) c, ih fun j hj => h1 j (List.mem_cons_of_mem _ hj)]
  · rw [List.getElem?_eq_none (by omega), List.getElem?_eq_none (by omega)]
    rfl
theorem pair_eqv (G : List Nat) (g g' : Nat) (l l' : List Nat) : PyData.eqv (pairD G g l) (pairD G g' l') = (decide (g = g') && decide ((l.map fun x => G.getD x 0) = l'.map fun x => G.getD x 0)) := by
  unfold pairD
  rw [PyData.eqv, PyData.eqvAll, PyData.eqvAll, PyData.eqvAll, ints_eq]
  have e : PyData.eqv (.int (g : Int)) (.int (g' : Int)) = decide (g = g') := by
    show ((g : Int) == (g' : Int)) = _
    by_cases c : g = g'
    · rw [c, decide_eq_true rfl]
      exact beq_self_eq_true _
    · rw [decide_eq_false c]
      exact beq_eq_false_iff_ne.mpr fun z => c (by omega)
  rw [e, Bool.and_true]
/-- the number of a place -/
def gAt (G : List Nat) (i : Nat) : Nat := G.getD i 0
theorem pairs_at {G : List Nat} {L : List (List Nat)} (hl : G.length = L.length) {i : Nat} (h : i < G.length) : atD (pairsD G L) i = pairD G (gAt G i) (L.getD i []) := by
  refine at_some (pairs_get ?_ ?_)
  · unfold gAt
    rw [List.getD_eq_getElem?_getD, List.getElem?_eq_getElem h]
    rfl
  · rw [List.getD_eq_getElem?_getD, List.getElem?_eq_getElem (by omega)]
    rfl
/-- parted: only apart -/
theorem part_fine {G : List Nat} {L : List (List Nat)} (hl : G.length = L.length) {i j : Nat} (hi : i < G.length) (hj : j < G.length) (h : gAt (partF G L) i = gAt (partF G L) j) : gAt G i = gAt G j := by
  have val : ∀ i, i < G.length → gAt (partF G L) i = numOfD (metD [] (pairsD G L)) (atD (pairsD G L) i) := fun i hi => by
    have a : (pairsD G L)[i]? = some ((pairsD G L)[i]'(by rw [pairs_len hl]; exact hi)) := List.getElem?_eq_getElem _
    unfold gAt partF numsF
    rw [List.getD_eq_getElem?_getD, List.getElem?_map, a, at_some a]
    rfl
  rw [val i hi, val j hj] at h
  have mem : ∀ i, i < G.length → atD (pairsD G L) i ∈ pairsD G L := fun i hi => by
    have a : (pairsD G L)[i]? = some ((pairsD G L)[i]'(by rw [pairs_len hl]; exact hi)) := List.getElem?_eq_getElem _
    rw [at_some a]
    exact List.getElem_mem _
  have fnd : ∀ i, i < G.length → ∃ z, (metD [] (pairsD G L))[numOfD (metD [] (pairsD G L)) (atD (pairsD G L) i)]? = some z ∧ PyData.eqv z (atD (pairsD G L) i) = true := fun i hi => by
    have has := metD_has SeqAt.eqv_refl (pairsD G L) [] (atD (pairsD G L) i) (pairs_cmp _ (mem i hi)).1 (mem i hi)
    have jl : numOfD (metD [] (pairsD G L)) (atD (pairsD G L) i) < (metD [] (pairsD G L)).length := List.findIdx_lt_length_of_exists (List.any_eq_true.mp has)
    exact ⟨_, List.getElem?_eq_getElem jl, List.findIdx_getElem (w := jl)⟩
  obtain ⟨z, z1, z2⟩ := fnd i hi
  obtain ⟨y, y1, y2⟩ := fnd j hj
  rw [h, y1] at z1
  cases z1
  have mz : z ∈ pairsD G L := by
    rcases metD_from _ _ _ (get_mem y1) with k | k
    · cases k
    · exact k
  obtain ⟨m, hm, em⟩ := List.getElem_of_mem mz
  have hm2 : m < G.length := by rw [← pairs_len hl]; exact hm
  have ez : z = pairD G (gAt G m) (L.getD m []) := by
    rw [← pairs_at hl hm2]
    exact (at_some (by rw [List.getElem?_eq_getElem hm, em])).symm
  rw [ez, pairs_at hl hi, pair_eqv, Bool.and_eq_true] at z2
  rw [ez, pairs_at hl hj, pair_eqv, Bool.and_eq_true] at y2
  rw [← of_decide_eq_true z2.1, ← of_decide_eq_true y2.1]
theorem map_same {f g : Nat → Nat} {n : Nat} (h : ∀ x y, x < n → y < n → (f x = f y ↔ g x = g y)) : ∀ l l' : List Nat, (∀ x ∈ l, x < n) → (∀ x ∈ l', x < n) → (l.map f = l'.map f ↔ l.map g = l'.map g)
  | [], [], _, _ => Iff.rfl
  | [], _ :: _, _, _ => ⟨fun e => by (cases e), fun e => by (cases e)⟩
  | _ :: _, [], _, _ => ⟨fun e => by (cases e), fun e => by (cases e)⟩
  | x :: l, y :: l', h1, h2 => by
    rw [List.map_cons, List.map_cons, List.map_cons, List.map_cons, List.cons.injEq, List.cons.injEq,
      map_same h l l' (fun z hz => h1 z (List.mem_cons_of_mem _ hz)) (fun z hz => h2 z (List.mem_cons_of_mem _ hz)), h x y (h1 x (List.mem_cons_self ..)) (h2 y (List.mem_cons_self ..))]
/-- the same kernel: parted to the same -/
theorem part_same {G F : List Nat} {L : List (List Nat)} (hg : G.length = L.length) (hf : F.length = L.length) (ok : ∀ n ∈ L, ∀ x ∈ n, x < L.length) (h : ∀ i j, i < L.length → j < L.length → (gAt G i = gAt G j ↔ gAt F i = gAt F j)) : partF G L = partF F L := by
  unfold partF
  refine nums_same (by rw [pairs_len hg, pairs_len hf, hg, hf]) fun i j hi hj => ?_
  rw [pairs_len hg] at hi hj
  rw [pairs_at hg hi, pairs_at hg hj, pairs_at hf (by omega), pairs_at hf (by omega), pair_eqv, pair_eqv]
  have mem : ∀ i, i < L.length → ∀ x ∈ L.getD i [], x < L.length := fun i hi x hx => by
    rw [List.getD_eq_getElem?_getD, List.getElem?_eq_getElem hi] at hx
    exact ok _ (List.getElem_mem hi) x hx
  have e1 := h i j (by omega) (by omega)
  have e2 := map_same (f := fun x => G.getD x 0) (g := fun x => F.getD x 0) (n := L.length) (fun x y hx hy => h x y hx hy) (L.getD i []) (L.getD j []) (mem i (by omega)) (mem j (by omega))
  rw [decide_eq_decide.mpr e1, decide_eq_decide.mpr e2]
/-- how many pairs of places are alike -/
def alikes (G : List Nat) (n : Nat) : Nat := ((List.range n).flatMap fun i => (List.range n).map fun j => (i, j)).countP fun p => gAt G p.1 == gAt G p.2
theorem in_pairs {n i j : Nat} (hi : i < n) (hj : j < n) : (i, j) ∈ (List.range n).flatMap fun i => (List.range n).map fun j => (i, j) :=
  List.mem_flatMap.mpr ⟨i, List.mem_range.mpr hi, List.mem_map.mpr ⟨j, List.mem_range.mpr hj, rfl⟩⟩
theorem of_pairs {n : Nat} {p : Nat × Nat} (h : p ∈ (List.range n).flatMap fun i => (List.range n).map fun j => (i, j)) : p.1 < n ∧ p.2 < n := by
  obtain ⟨i, hi, h2⟩ := List.mem_flatMap.mp h
  obtain ⟨j, hj, rfl⟩ := List.mem_map.mp h2
  exact ⟨List.mem_range.mp hi, List.mem_range.mp hj⟩
theorem count_less {α : Type} {p q : α → Bool} : ∀ {l : List α}, (∀ x ∈ l, p x = true → q x = true) → (∃ x ∈ l, q x = true ∧ p x = false) → l.countP p < l.countP q
  | [], _, ⟨x, hx, _⟩ => by cases hx
  | y :: l, h, ⟨x, hx, h1, h2⟩ => by
    have le : l.countP p ≤ l.countP q := List.countP_mono_left fun z hz => h z (List.mem_cons_of_mem _ hz)
    rw [List.countP_cons, List.countP_cons]
    rcases List.mem_cons.mp hx with rfl | hx
    · rw [h1, h2]
      simp
      omega
    · have ih := count_less (fun z hz => h z (List.mem_cons_of_mem _ hz)) ⟨x, hx, h1, h2⟩
      have hy := h y (List.mem_cons_self ..)
      cases c : p y with
      | true => rw [hy c]; simp; omega
      | false => cases q y <;> simp <;> omega
theorem say_stops {bs : List (Nat × Tm)} (ok : ∀ x ∈ bs, ∀ p ∈ x.2.places, p < bs.length) : ∃ N, sayIt bs (N + 1) = sayIt bs N ∧ ∀ k, k < N → sayIt bs (k + 1) ≠ sayIt bs k := by
  have lL : (leadsF bs).length = bs.length := List.length_map ..
  have okL : ∀ n ∈ leadsF bs, ∀ x ∈ n, x < (leadsF bs).length := fun n hn => by
    obtain ⟨x, hx, rfl⟩ := List.mem_map.mp hn
    rw [lL]
    exact ok x hx
  have ll : ∀ k, (sayIt bs k).length = (leadsF bs).length := fun k => by rw [say_len, lL]
  have fine : ∀ k i j, i < bs.length → j < bs.length → gAt (sayIt bs (k + 1)) i = gAt (sayIt bs (k + 1)) j → gAt (sayIt bs k) i = gAt (sayIt bs k) j := fun k i j hi hj h =>
    part_fine (ll k) (by rw [say_len]; exact hi) (by rw [say_len]; exact hj) h
  have some : ∃ k, sayIt bs (k + 1) = sayIt bs k := by
    refine Classical.byContradiction fun no => ?_
    have step : ∀ k, alikes (sayIt bs (k + 1)) bs.length < alikes (sayIt bs k) bs.length := fun k => by
      unfold alikes
      refine count_less (fun p hp h => ?_) ?_
      · obtain ⟨h1, h2⟩ := of_pairs hp
        exact beq_iff_eq.mpr (fine k _ _ h1 h2 (beq_iff_eq.mp h))
      · refine Classical.byContradiction fun none => no ⟨k + 1, ?_⟩
        show partF (sayIt bs (k + 1)) (leadsF bs) = partF (sayIt bs k) (leadsF bs)
        refine part_same (ll (k + 1)) (ll k) okL fun i j hi hj => ?_
        rw [lL] at hi hj
        refine ⟨fine k i j hi hj, fun h => ?_⟩
        refine Classical.byContradiction fun h2 => none ⟨(i, j), in_pairs hi hj, beq_iff_eq.mpr h, ?_⟩
        exact beq_eq_false_iff_ne.mpr h2
    have down : ∀ k, alikes (sayIt bs k) bs.length + k ≤ alikes (sayIt bs 0) bs.length := fun k => by
      induction k with
      | zero => exact Nat.le_refl _
      | succ k ih => have := step k; omega
    have := down (alikes (sayIt bs 0) bs.length + 1)
    omega
  obtain ⟨k, hk⟩ := some
  have least : ∀ k, sayIt bs (k + 1) = sayIt bs k → ∃ N, sayIt bs (N + 1) = sayIt bs N ∧ ∀ j, j < N → sayIt bs (j + 1) ≠ sayIt bs j := fun k => by
    induction k using Nat.strongRecOn with
    | _ k ih =>
      intro h
      by_cases c : ∃ j, j < k ∧ sayIt bs (j + 1) = sayIt bs j
      · obtain ⟨j, j1, j2⟩ := c
        exact ih j j1 j2
      · exact ⟨k, h, fun j hj e => c ⟨j, hj, e⟩⟩
  exact least k hk
end V


set_option Elab.async false
set_option linter.all false
set_option maxRecDepth 100000
set_option maxHeartbeats 4000000
namespace V
open PySem PySem.Spec PyProof.Rows L2 Evl TL NumText
/-! ### what saying tells: the widest likeness that keeps the shapes and goes over to what is called -/
theorem part_iff {G : List Nat} {L : List (List Nat)} (hl : G.length = L.length) {i j : Nat} (hi : i < G.length) (hj : j < G.length) :
    gAt (partF G L) i = gAt (partF G L) j ↔ gAt G i = gAt G j ∧ (L.getD i []).map (gAt G) = (L.getD j []).map (gAt G) := by
  have val : ∀ i, i < G.length → gAt (partF G L) i = numOfD (metD [] (pairsD G L)) (atD (pairsD G L) i) := fun i hi => by
    have a : (pairsD G L)[i]? = some ((pairsD G L)[i]'(by rw [pairs_len hl]; exact hi)) := List.getElem?_eq_getElem _
    unfold gAt partF numsF
    rw [List.getD_eq_getElem?_getD, List.getElem?_map, a, at_some a]
    rfl
  have mem : ∀ i, i < G.length → atD (pairsD G L) i ∈ pairsD G L := fun i hi => by
    have a : (pairsD G L)[i]? = some ((pairsD G L)[i]'(by rw [pairs_len hl]; exact hi)) := List.getElem?_eq_getElem _
    rw [at_some a]
    exact List.getElem_mem _
  have fnd : ∀ i, i < G.length → ∃ z, (metD [] (pairsD G L))[numOfD (metD [] (pairsD G L)) (atD (pairsD G L) i)]? = some z ∧ PyData.eqv z (atD (pairsD G L) i) = true := fun i hi => by
    have has := metD_has SeqAt.eqv_refl (pairsD G L) [] (atD (pairsD G L) i) (pairs_cmp _ (mem i hi)).1 (mem i hi)
    have jl : numOfD (metD [] (pairsD G L)) (atD (pairsD G L) i) < (metD [] (pairsD G L)).length := List.findIdx_lt_length_of_exists (List.any_eq_true.mp has)
    exact ⟨_, List.getElem?_eq_getElem jl, List.findIdx_getElem (w := jl)⟩
  constructor
  · intro h
    rw [val i hi, val j hj] at h
    obtain ⟨z, z1, z2⟩ := fnd i hi
    obtain ⟨y, y1, y2⟩ := fnd j hj
    rw [h, y1] at z1
    cases z1
    have mz : z ∈ pairsD G L := by
      rcases metD_from _ _ _ (get_mem y1) with k | k
      · cases k
      · exact k
    obtain ⟨m, hm, em⟩ := List.getElem_of_mem mz
    have hm2 : m < G.length := by rw [← pairs_len hl]; exact hm
    have ez : z = pairD G (gAt G m) (L.getD m []) := by
      rw [← pairs_at hl hm2]
      exact (at_some (by rw [List.getElem?_eq_getElem hm, em])).symm
    rw [ez, pairs_at hl hi, pair_eqv, Bool.and_eq_true] at z2
    rw [ez, pairs_at hl hj, pair_eqv, Bool.and_eq_true] at y2
    exact ⟨(of_decide_eq_true z2.1).symm.trans (of_decide_eq_true y2.1), (of_decide_eq_true z2.2).symm.trans (of_decide_eq_true y2.2)⟩
  · rintro ⟨h1, h2⟩
    rw [val i hi, val j hj, pairs_at hl hi, pairs_at hl hj]
    have e : pairD G (gAt G i) (L.getD i []) = pairD G (gAt G j) (L.getD j []) := by
      unfold pairD
      rw [h1, show (L.getD i []).map (fun x => G.getD x 0) = (L.getD j []).map (fun x => G.getD x 0) from h2]
    rw [e]
/-- the shape of the body at a place -/
def shapeAt (bs : List (Nat × Tm)) (i : Nat) : Option (Nat × Tm) := (bs[i]?).map (reB shapeF)
theorem bod_eqv (x y : Nat × Tm) (h : PyData.eqv (bodD x) (bodD y) = true) : x = y := by
  unfold bodD at h
  rw [PyData.eqv, PyData.eqvAll, PyData.eqvAll, PyData.eqvAll, Bool.and_eq_true, Bool.and_eq_true] at h
  have e1 : x.1 = y.1 := by
    have h1 : ((x.1 : Int) == (y.1 : Int)) = true := h.1
    have := beq_iff_eq.mp h1
    omega
  exact Prod.ext e1 (eqv_py _ _ h.2.1)
theorem say0_iff {bs : List (Nat × Tm)} (ok : ∀ x ∈ bs, x.2.Ok 11 ∧ x.2.deep ≤ 8) {i j : Nat} (hi : i < bs.length) (hj : j < bs.length) : gAt (sayIt bs 0) i = gAt (sayIt bs 0) j ↔ shapeAt bs i = shapeAt bs j := by
  have ls : (shapesD bs).length = bs.length := by unfold shapesD; rw [List.length_map, List.length_map]
  have at_ : ∀ i (hi : i < bs.length), (shapesD bs)[i]? = some (bodD (reB shapeF bs[i])) := fun i hi => by
    unfold shapesD
    rw [List.getElem?_map, List.getElem?_map, List.getElem?_eq_getElem hi]
    rfl
  have val : ∀ i (hi : i < bs.length), gAt (sayIt bs 0) i = numOfD (metD [] (shapesD bs)) (bodD (reB shapeF bs[i])) := fun i hi => by
    show gAt (numsF (shapesD bs)) i = _
    unfold gAt numsF
    rw [List.getD_eq_getElem?_getD, List.getElem?_map, at_ i hi]
    rfl
  have fnd : ∀ i (hi : i < bs.length), ∃ z, (metD [] (shapesD bs))[numOfD (metD [] (shapesD bs)) (bodD (reB shapeF bs[i]))]? = some z ∧ PyData.eqv z (bodD (reB shapeF bs[i])) = true := fun i hi => by
    have mm : bodD (reB shapeF bs[i]) ∈ shapesD bs := get_mem (at_ i hi)
    have has := metD_has SeqAt.eqv_refl (shapesD bs) [] _ (shapes_cmp ok _ mm).1 mm
    have jl : numOfD (metD [] (shapesD bs)) (bodD (reB shapeF bs[i])) < (metD [] (shapesD bs)).length := List.findIdx_lt_length_of_exists (List.any_eq_true.mp has)
    exact ⟨_, List.getElem?_eq_getElem jl, List.findIdx_getElem (w := jl)⟩
  have sh : ∀ i (hi : i < bs.length), shapeAt bs i = some (reB shapeF bs[i]) := fun i hi => by
    unfold shapeAt
    rw [List.getElem?_eq_getElem hi]
    rfl
  rw [sh i hi, sh j hj, Option.some.injEq]
  constructor
  · intro h
    rw [val i hi, val j hj] at h
    obtain ⟨z, z1, z2⟩ := fnd i hi
    obtain ⟨y, y1, y2⟩ := fnd j hj
    rw [h, y1] at z1
    cases z1
    have mz : z ∈ shapesD bs := by
      rcases metD_from _ _ _ (get_mem y1) with k | k
      · cases k
      · exact k
    unfold shapesD at mz
    obtain ⟨w, _, rfl⟩ := List.mem_map.mp mz
    exact (bod_eqv _ _ z2).symm.trans (bod_eqv _ _ y2)
  · intro h
    rw [val i hi, val j hj, h]
section
variable {bs : List (Nat × Tm)} {N : Nat}
def leadAt (bs : List (Nat × Tm)) (i : Nat) : List Nat := (leadsF bs).getD i []
/-- those who say the same have one shape .. -/
theorem say_shape (ok : ∀ x ∈ bs, x.2.Ok 11 ∧ x.2.deep ≤ 8) {i j : Nat} (hi : i < bs.length) (hj : j < bs.length) : ∀ k, gAt (sayIt bs k) i = gAt (sayIt bs k) j → shapeAt bs i = shapeAt bs j
  | 0, h => (say0_iff ok hi hj).mp h
  | k + 1, h => say_shape ok hi hj k (part_fine (by rw [say_len]; exact (List.length_map ..).symm) (by rw [say_len]; exact hi) (by rw [say_len]; exact hj) h)
/-- .. and call those who say the same -/
theorem say_leads (hN : sayIt bs (N + 1) = sayIt bs N) {i j : Nat} (hi : i < bs.length) (hj : j < bs.length) (h : gAt (sayIt bs N) i = gAt (sayIt bs N) j) : (leadAt bs i).map (gAt (sayIt bs N)) = (leadAt bs j).map (gAt (sayIt bs N)) := by
  rw [← hN] at h
  exact ((part_iff (by rw [say_len]; exact (List.length_map ..).symm) (by rw [say_len]; exact hi) (by rw [say_len]; exact hj)).mp h).2
/-- pointwise -/
def Alike (R : Nat → Nat → Prop) : List Nat → List Nat → Prop
  | [], [] => True
  | x :: l, y :: m => R x y ∧ Alike R l m
  | _, _ => False
theorem alike_map {R : Nat → Nat → Prop} {f : Nat → Nat} {n : Nat} (h : ∀ x y, x < n → y < n → R x y → f x = f y) : ∀ l m : List Nat, (∀ x ∈ l, x < n) → (∀ x ∈ m, x < n) → Alike R l m → l.map f = m.map f
  | [], [], _, _, _ => rfl
  | x :: l, y :: m, h1, h2, ⟨a, b⟩ => by
    rw [List.map_cons, List.map_cons, h x y (h1 x (List.mem_cons_self ..)) (h2 y (List.mem_cons_self ..)) a, alike_map h l m (fun z hz => h1 z (List.mem_cons_of_mem _ hz)) (fun z hz => h2 z (List.mem_cons_of_mem _ hz)) b]
  | [], _ :: _, _, _, h => h.elim
  | _ :: _, [], _, _, h => h.elim
/-- .. and whatever likeness does both is within it -/
theorem say_widest (ok : ∀ x ∈ bs, x.2.Ok 11 ∧ x.2.deep ≤ 8) (okp : ∀ x ∈ bs, ∀ p ∈ x.2.places, p < bs.length) {R : Nat → Nat → Prop} (h1 : ∀ i j, i < bs.length → j < bs.length → R i j → shapeAt bs i = shapeAt bs j)
    (h2 : ∀ i j, i < bs.length → j < bs.length → R i j → Alike R (leadAt bs i) (leadAt bs j)) : ∀ k i j, i < bs.length → j < bs.length → R i j → gAt (sayIt bs k) i = gAt (sayIt bs k) j
  | 0, i, j, hi, hj, h => (say0_iff ok hi hj).mpr (h1 i j hi hj h)
  | k + 1, i, j, hi, hj, h => by
    have lt : ∀ i, i < bs.length → ∀ x ∈ leadAt bs i, x < bs.length := fun i hi x hx => by
      have e : leadAt bs i = bs[i].2.places := by
        unfold leadAt leadsF
        rw [List.getD_eq_getElem?_getD, List.getElem?_map, List.getElem?_eq_getElem hi]
        rfl
      rw [e] at hx
      exact okp _ (List.getElem_mem hi) x hx
    exact (part_iff (by rw [say_len]; exact (List.length_map ..).symm) (by rw [say_len]; exact hi) (by rw [say_len]; exact hj)).mpr
      ⟨say_widest ok okp h1 h2 k i j hi hj h, alike_map (fun x y hx hy => say_widest ok okp h1 h2 k x y hx hy) _ _ (lt i hi) (lt j hj) (h2 i j hi hj h)⟩
end
end V


set_option Elab.async false
set_option linter.all false
set_option maxRecDepth 100000
set_option maxHeartbeats 4000000
namespace V
open PySem PySem.Spec PyProof.Rows L2 Evl TL NumText
/-! ### numbers as they first come -/
def FC (g : Nat → Nat) (n : Nat) : Prop := ∀ i, i < n → (∃ j, j < i ∧ g j = g i) ∨ ((∀ j, j < i → g j < g i) ∧ ∀ m, m < g i → ∃ j, j < i ∧ g j = m)
theorem metD_app : ∀ (l met : List PyData), ∃ r, metD met l = met ++ r
  | [], met => ⟨[], (List.append_nil _).symm⟩
  | x :: l, met => by
    obtain ⟨r, hr⟩ := metD_app l (if (met.any fun z => PyData.eqv z x) = true then met else met ++ [x])
    rw [metD, hr]
    split
    · exact ⟨r, rfl⟩
    · exact ⟨[x] ++ r, by rw [List.append_assoc]⟩
theorem metD_join : ∀ (a b met : List PyData), metD met (a ++ b) = metD (metD met a) b
  | [], _, _ => rfl
  | x :: a, b, met => metD_join a b _
theorem fc_nums {ds : List PyData} (hc : ∀ d ∈ ds, d.canLay0 = true) : FC (gAt (numsF ds)) ds.length := by
  have val : ∀ {i d}, ds[i]? = some d → gAt (numsF ds) i = numOfD (metD [] ds) d := fun {i d} h => by
    unfold gAt numsF
    rw [List.getD_eq_getElem?_getD, List.getElem?_map, h]
    rfl
  have pre : ∀ i, ∃ r, metD [] ds = metD [] (ds.take i) ++ r := fun i => by
    have e : metD [] ds = metD (metD [] (ds.take i)) (ds.drop i) := by rw [← metD_join, List.take_append_drop]
    rw [e]
    exact metD_app _ _
  -- what is met already has its number there, what is not has the next one
  have old : ∀ i d, ((metD [] (ds.take i)).any fun z => PyData.eqv z d) = true → numOfD (metD [] ds) d < (metD [] (ds.take i)).length := fun i d h => by
    obtain ⟨r, e⟩ := pre i
    unfold numOfD
    rw [e, List.findIdx_append]
    have lt : (metD [] (ds.take i)).findIdx (fun z => PyData.eqv z d) < (metD [] (ds.take i)).length := List.findIdx_lt_length_of_exists (List.any_eq_true.mp h)
    rw [if_pos lt]
    exact lt
  have new : ∀ i d, ds[i]? = some d → ((metD [] (ds.take i)).any fun z => PyData.eqv z d) ≠ true → numOfD (metD [] ds) d = (metD [] (ds.take i)).length := fun i d hi h => by
    obtain ⟨r, e⟩ := pre (i + 1)
    have md := List.mem_of_getElem? hi
    rw [take_more hi, metD_add, if_neg h] at e
    unfold numOfD
    rw [e, List.append_assoc, List.findIdx_append]
    have ge : ¬ (metD [] (ds.take i)).findIdx (fun z => PyData.eqv z d) < (metD [] (ds.take i)).length := fun lt => h (List.any_eq_true.mpr (by
      obtain ⟨w⟩ : Nonempty ((metD [] (ds.take i)).findIdx (fun z => PyData.eqv z d) < (metD [] (ds.take i)).length) := ⟨lt⟩
      exact ⟨_, List.getElem_mem w, List.findIdx_getElem (w := w)⟩))
    rw [if_neg ge, List.singleton_append, List.findIdx_cons, SeqAt.eqv_refl d (hc d md)]
    exact Nat.zero_add _
  -- all numbers so far
  have all : ∀ i, i ≤ ds.length → ∀ m, m < (metD [] (ds.take i)).length ↔ ∃ j, j < i ∧ gAt (numsF ds) j = m := by
    intro i
    induction i with
    | zero => exact fun _ m => ⟨fun h => absurd h (Nat.not_lt_zero m), fun ⟨j, h, _⟩ => absurd h (Nat.not_lt_zero j)⟩
    | succ i ih =>
      intro hi m
      have hd : ds[i]? = some ds[i] := List.getElem?_eq_getElem (by omega)
      rw [take_more hd, metD_add]
      have ih := ih (by omega) m
      have back : (∃ j, j < i + 1 ∧ gAt (numsF ds) j = m) ↔ (∃ j, j < i ∧ gAt (numsF ds) j = m) ∨ gAt (numsF ds) i = m := ⟨fun ⟨j, h, e⟩ => by
        by_cases c : j = i
        · exact .inr (by rw [← c]; exact e)
        · exact .inl ⟨j, by omega, e⟩, fun h => h.elim (fun ⟨j, h, e⟩ => ⟨j, by omega, e⟩) fun e => ⟨i, by omega, e⟩⟩
      rw [back, ← ih, val hd]
      by_cases c : ((metD [] (ds.take i)).any fun z => PyData.eqv z ds[i]) = true
      · rw [if_pos c]
        have := old i _ c
        omega
      · rw [if_neg c, List.length_append, new i _ hd c]
        show m < _ + 1 ↔ _
        omega
  intro i hi
  have hd : ds[i]? = some ds[i] := List.getElem?_eq_getElem hi
  by_cases c : ((metD [] (ds.take i)).any fun z => PyData.eqv z ds[i]) = true
  · refine .inl ((all i (by omega) _).mp ?_)
    rw [val hd]
    exact old i _ c
  · have e := new i _ hd c
    rw [← val hd] at e
    refine .inr ⟨fun j hj => ?_, fun m hm => (all i (by omega) m).mp (by rw [← e]; exact hm)⟩
    rw [e]
    exact (all i (by omega) _).mpr ⟨j, hj, rfl⟩
/-! ### how long saying goes on -/
theorem least_of {P : Nat → Prop} {n i : Nat} (hi : i < n) (h : P i) : ∃ a, a < n ∧ P a ∧ ∀ c, c < a → ¬ P c := by
  induction i using Nat.strongRecOn with
  | _ i ih =>
    by_cases c : ∃ j, j < i ∧ P j
    · obtain ⟨j, j1, j2⟩ := c
      exact ih j j1 (by omega) j2
    · exact ⟨i, hi, h, fun j hj z => c ⟨j, hj, z⟩⟩
section
variable {bs : List (Nat × Tm)}
theorem say_fc (ok : ∀ x ∈ bs, x.2.Ok 11 ∧ x.2.deep ≤ 8) : ∀ k, FC (gAt (sayIt bs k)) bs.length
  | 0 => by
    have h := fc_nums (ds := shapesD bs) fun d hd => (shapes_cmp ok d hd).1
    rw [show (shapesD bs).length = bs.length by unfold shapesD; rw [List.length_map, List.length_map]] at h
    exact h
  | k + 1 => by
    have h := fc_nums (ds := pairsD (sayIt bs k) (leadsF bs)) fun d hd => (pairs_cmp d hd).1
    rw [pairs_len (by rw [say_len]; exact (List.length_map ..).symm), say_len] at h
    exact h
theorem say_fine (k i j : Nat) (hi : i < bs.length) (hj : j < bs.length) (h : gAt (sayIt bs (k + 1)) i = gAt (sayIt bs (k + 1)) j) : gAt (sayIt bs k) i = gAt (sayIt bs k) j :=
  part_fine (by rw [say_len]; exact (List.length_map ..).symm) (by rw [say_len]; exact hi) (by rw [say_len]; exact hj) h
theorem say_same (okp : ∀ x ∈ bs, ∀ p ∈ x.2.places, p < bs.length) {k m : Nat} (h : ∀ i j, i < bs.length → j < bs.length → (gAt (sayIt bs k) i = gAt (sayIt bs k) j ↔ gAt (sayIt bs m) i = gAt (sayIt bs m) j)) : sayIt bs (k + 1) = sayIt bs (m + 1) := by
  have lL : (leadsF bs).length = bs.length := List.length_map ..
  refine part_same (by rw [say_len, lL]) (by rw [say_len, lL]) (fun n hn x hx => ?_) fun i j hi hj => h i j (by omega) (by omega)
  obtain ⟨y, hy, rfl⟩ := List.mem_map.mp hn
  rw [lL]
  exact okp y hy x hx
def firstB (G : Nat → Nat) (i : Nat) : Bool := (List.range i).all fun j => G j != G i
theorem firstB_iff {G : Nat → Nat} {i : Nat} : firstB G i = true ↔ ∀ j, j < i → G j ≠ G i := by
  unfold firstB
  rw [List.all_eq_true]
  exact ⟨fun h j hj => bne_iff_ne.mp (h j (List.mem_range.mpr hj)), fun h j hj => bne_iff_ne.mpr (h j (List.mem_range.mp hj))⟩
def firsts (G : Nat → Nat) (n : Nat) : Nat := (List.range n).countP (firstB G)
/-- parted once more there are more groups, or all is done -/
theorem say_more (okp : ∀ x ∈ bs, ∀ p ∈ x.2.places, p < bs.length) (k : Nat) (h : sayIt bs (k + 2) ≠ sayIt bs (k + 1)) : firsts (gAt (sayIt bs k)) bs.length < firsts (gAt (sayIt bs (k + 1))) bs.length := by
  obtain ⟨i, j, hi, hj, h1, h2⟩ : ∃ i j, i < bs.length ∧ j < bs.length ∧ gAt (sayIt bs k) i = gAt (sayIt bs k) j ∧ gAt (sayIt bs (k + 1)) i ≠ gAt (sayIt bs (k + 1)) j := by
    refine Classical.byContradiction fun no => h (say_same okp fun i j hi hj => ⟨say_fine k i j hi hj, fun e => ?_⟩)
    exact Classical.byContradiction fun ne => no ⟨i, j, hi, hj, e, ne⟩
  -- the first of their group, and the first that is parted from it
  obtain ⟨a, ha, ae, al⟩ : ∃ a, a < bs.length ∧ gAt (sayIt bs k) a = gAt (sayIt bs k) i ∧ ∀ c, c < a → gAt (sayIt bs k) c ≠ gAt (sayIt bs k) i := least_of (P := fun a => gAt (sayIt bs k) a = gAt (sayIt bs k) i) hi rfl
  obtain ⟨b, hb, be, bl⟩ : ∃ b, b < bs.length ∧ (gAt (sayIt bs k) b = gAt (sayIt bs k) i ∧ gAt (sayIt bs (k + 1)) b ≠ gAt (sayIt bs (k + 1)) a) ∧ ∀ c, c < b → ¬ (gAt (sayIt bs k) c = gAt (sayIt bs k) i ∧ gAt (sayIt bs (k + 1)) c ≠ gAt (sayIt bs (k + 1)) a) := by
    by_cases c : gAt (sayIt bs (k + 1)) i = gAt (sayIt bs (k + 1)) a
    · exact least_of (P := fun b => gAt (sayIt bs k) b = gAt (sayIt bs k) i ∧ gAt (sayIt bs (k + 1)) b ≠ gAt (sayIt bs (k + 1)) a) hj ⟨h1.symm, fun z => h2 (c.trans z.symm)⟩
    · exact least_of (P := fun b => gAt (sayIt bs k) b = gAt (sayIt bs k) i ∧ gAt (sayIt bs (k + 1)) b ≠ gAt (sayIt bs (k + 1)) a) hi ⟨rfl, c⟩
  refine count_less (fun x hx hf => ?_) ⟨b, List.mem_range.mpr hb, ?_, ?_⟩
  · have xl := List.mem_range.mp hx
    rw [firstB_iff] at hf ⊢
    exact fun c hc z => hf c hc (say_fine k c x (by omega) xl z)
  · rw [firstB_iff]
    refine fun c hc z => bl c hc ⟨(say_fine k c b (by omega) hb z).trans be.1, fun y => be.2 (z.symm.trans y)⟩
  · rw [Bool.eq_false_iff]
    intro hf
    rw [firstB_iff] at hf
    have ab : a ≠ b := fun z => be.2 (by rw [z])
    have : a < b := by
      refine Classical.byContradiction fun ge => ?_
      exact al b (by omega) be.1
    exact hf a this (ae.trans be.1.symm)
theorem say_few (okp : ∀ x ∈ bs, ∀ p ∈ x.2.places, p < bs.length) {N : Nat} (hk : ∀ k, k < N → sayIt bs (k + 1) ≠ sayIt bs k) : N ≤ bs.length := by
  by_cases c : bs.length = 0
  · have e : ∀ k, sayIt bs k = [] := fun k => List.length_eq_zero_iff.mp (by rw [say_len]; exact c)
    refine Classical.byContradiction fun z => ?_
    exact hk 0 (by omega) (by rw [e, e])
  have up : ∀ k, k < N → k + 1 ≤ firsts (gAt (sayIt bs k)) bs.length := fun k => by
    induction k with
    | zero =>
      intro _
      refine List.countP_pos_iff.mpr ⟨0, List.mem_range.mpr (by omega), ?_⟩
      rw [firstB_iff]
      exact fun j hj => absurd hj (Nat.not_lt_zero j)
    | succ k ih =>
      intro hl
      have := say_more okp k (hk (k + 1) hl)
      have := ih (by omega)
      omega
  have top : ∀ k, firsts (gAt (sayIt bs k)) bs.length ≤ bs.length := fun k => by
    have h : firsts (gAt (sayIt bs k)) bs.length ≤ (List.range bs.length).length := List.countP_le_length
    rw [List.length_range] at h
    exact h
  cases N with
  | zero => exact Nat.zero_le _
  | succ N =>
    have a := up N (by omega)
    have b := top N
    omega
theorem say_keep {N : Nat} (hN : sayIt bs (N + 1) = sayIt bs N) : ∀ k, sayIt bs (N + k) = sayIt bs N
  | 0 => rfl
  | k + 1 => by
    have ih := say_keep hN k
    show partF (sayIt bs (N + k)) (leadsF bs) = _
    rw [ih]
    exact hN
end
end V


set_option Elab.async false
set_option linter.all false
set_option maxRecDepth 100000
set_option maxHeartbeats 4000000
namespace V
open PySem PySem.Spec PyProof.Rows L2 Evl TL NumText
/-! ### pairs that are told apart -/
section
variable {bs : List (Nat × Tm)} {N : Nat}
def Sound (bs : List (Nat × Tm)) (N : Nat) (m : Nat → Nat → Bool) : Prop := ∀ x y, x < bs.length → y < bs.length → m x y = true → gAt (sayIt bs N) x ≠ gAt (sayIt bs N) y
def Prg (bs : List (Nat × Tm)) (k : Nat) (m : Nat → Nat → Bool) : Prop := ∀ x y, x < bs.length → y < bs.length → gAt (sayIt bs k) x ≠ gAt (sayIt bs k) y → m x y = true
def anyZ (m : Nat → Nat → Bool) (l l' : List Nat) : Bool := (l.zip l').any fun p => m p.1 p.2
def setM (m : Nat → Nat → Bool) (i j : Nat) (v : Bool) : Nat → Nat → Bool := fun x y => if x = i ∧ y = j then v else m x y
theorem lead_at {i : Nat} {x : Nat × Tm} (h : bs[i]? = some x) : leadAt bs i = x.2.places := by
  unfold leadAt leadsF
  rw [List.getD_eq_getElem?_getD, List.getElem?_map, h]
  rfl
theorem re_places : ∀ t : Tm, (t.re shapeF).places = t.places.map fun _ => 0 := by
  intro t
  induction t using Tm.ind with
  | h1 k => rfl
  | h2 k => rfl
  | h3 h ts ih =>
    show (Tm.node (h.re shapeF) (Tm.res shapeF ts)).places = _
    rw [places_node, places_node, List.map_append, res_map]
    have e1 : (h.re shapeF).ps = h.ps.map fun _ => 0 := by cases h <;> rfl
    have e2 : ∀ us : List Tm, (∀ u ∈ us, u ∈ ts) → (us.map (Tm.re shapeF)).flatMap Tm.places = (us.flatMap Tm.places).map fun _ => 0 := by
      intro us
      induction us with
      | nil => exact fun _ => rfl
      | cons u us ih2 =>
        intro hm
        rw [List.map_cons, List.flatMap_cons, List.flatMap_cons, List.map_append, ih u (hm u (List.mem_cons_self ..)), ih2 fun v hv => hm v (List.mem_cons_of_mem _ hv)]
    rw [e1, e2 ts fun _ z => z]
theorem shape_len {i j : Nat} (hi : i < bs.length) (hj : j < bs.length) (h : shapeAt bs i = shapeAt bs j) : (leadAt bs i).length = (leadAt bs j).length := by
  have a := List.getElem?_eq_getElem hi
  have b := List.getElem?_eq_getElem hj
  unfold shapeAt at h
  rw [a, b] at h
  have e : reB shapeF bs[i] = reB shapeF bs[j] := Option.some.inj h
  have e2 : (bs[i].2.re shapeF).places = (bs[j].2.re shapeF).places := congrArg (fun z => z.2.places) e
  rw [re_places, re_places] at e2
  have e3 := congrArg List.length e2
  rw [List.length_map, List.length_map] at e3
  rw [lead_at a, lead_at b]
  exact e3
theorem zip_sound {m : Nat → Nat → Bool} {g : Nat → Nat} {n : Nat} (h : ∀ x y, x < n → y < n → m x y = true → g x ≠ g y) : ∀ l l' : List Nat, (∀ x ∈ l, x < n) → (∀ x ∈ l', x < n) → anyZ m l l' = true → l.map g ≠ l'.map g
  | [], _, _, _, e => by cases e
  | _ :: _, [], _, _, e => by cases e
  | x :: l, y :: l', h1, h2, e => by
    intro z
    rw [List.map_cons, List.map_cons] at z
    obtain ⟨z1, z2⟩ := List.cons.inj z
    have e2 : (m x y || anyZ m l l') = true := e
    rcases Bool.or_eq_true _ _ |>.mp e2 with e2 | e2
    · exact h x y (h1 x (List.mem_cons_self ..)) (h2 y (List.mem_cons_self ..)) e2 z1
    · exact zip_sound h l l' (fun a ha => h1 a (List.mem_cons_of_mem _ ha)) (fun a ha => h2 a (List.mem_cons_of_mem _ ha)) e2 z2
theorem zip_prog {m : Nat → Nat → Bool} {g : Nat → Nat} {n : Nat} (h : ∀ x y, x < n → y < n → g x ≠ g y → m x y = true) : ∀ l l' : List Nat, l.length = l'.length → (∀ x ∈ l, x < n) → (∀ x ∈ l', x < n) → l.map g ≠ l'.map g → anyZ m l l' = true
  | [], [], _, _, _, e => absurd rfl e
  | _ :: _, [], hl, _, _, _ => by cases hl
  | [], _ :: _, hl, _, _, _ => by cases hl
  | x :: l, y :: l', hl, h1, h2, e => by
    show (m x y || anyZ m l l') = true
    by_cases c : g x = g y
    · rw [zip_prog h l l' (Nat.succ.inj hl) (fun a ha => h1 a (List.mem_cons_of_mem _ ha)) (fun a ha => h2 a (List.mem_cons_of_mem _ ha)) fun z => e (by rw [List.map_cons, List.map_cons, c, z]), Bool.or_true]
    · rw [h x y (h1 x (List.mem_cons_self ..)) (h2 y (List.mem_cons_self ..)) c, Bool.true_or]
def RI (bs : List (Nat × Tm)) (N t i j : Nat) (m : Nat → Nat → Bool) : Prop := Sound bs N m ∧ Prg bs t m ∧ ∀ x y, x < bs.length → y < bs.length → (x < i ∨ (x = i ∧ y < j)) → gAt (sayIt bs (t + 1)) x ≠ gAt (sayIt bs (t + 1)) y → m x y = true
theorem lead_lt (okp : ∀ x ∈ bs, ∀ p ∈ x.2.places, p < bs.length) {i : Nat} (hi : i < bs.length) : ∀ x ∈ leadAt bs i, x < bs.length := fun x hx => by
  rw [lead_at (List.getElem?_eq_getElem hi)] at hx
  exact okp _ (List.getElem_mem hi) x hx
theorem RI.start (ok : ∀ x ∈ bs, x.2.Ok 11 ∧ x.2.deep ≤ 8) {m : Nat → Nat → Bool} (h : ∀ x y, x < bs.length → y < bs.length → (m x y = true ↔ shapeAt bs x ≠ shapeAt bs y)) : RI bs N 0 0 0 m := by
  refine ⟨fun x y hx hy e z => ?_, fun x y hx hy e => ?_, fun x y _ _ c => ?_⟩
  · exact (h x y hx hy).mp e (say_shape ok hx hy N z)
  · exact (h x y hx hy).mpr fun z => e ((say0_iff ok hx hy).mpr z)
  · rcases c with c | c
    · exact absurd c (Nat.not_lt_zero x)
    · exact absurd c.2 (Nat.not_lt_zero y)
theorem RI.skip {t i j : Nat} {m : Nat → Nat → Bool} (h : RI bs N t i j m) (e : m i j = true) : RI bs N t i (j + 1) m :=
  ⟨h.1, h.2.1, fun x y hx hy c ne => by
    by_cases d : x = i ∧ y = j
    · rw [d.1, d.2]
      exact e
    · exact h.2.2 x y hx hy (by omega) ne⟩
theorem RI.put (ok : ∀ x ∈ bs, x.2.Ok 11 ∧ x.2.deep ≤ 8) (okp : ∀ x ∈ bs, ∀ p ∈ x.2.places, p < bs.length) (hN : sayIt bs (N + 1) = sayIt bs N) {t i j : Nat} {m : Nat → Nat → Bool} (h : RI bs N t i j m) (hi : i < bs.length) (hj : j < bs.length) (e : m i j = false) :
    RI bs N t i (j + 1) (setM m i j (anyZ m (leadAt bs i) (leadAt bs j))) := by
  obtain ⟨h1, h2, h3⟩ := h
  have same : gAt (sayIt bs t) i = gAt (sayIt bs t) j := Classical.byContradiction fun ne => by
    rw [h2 i j hi hj ne] at e
    cases e
  have iff := part_iff (G := sayIt bs t) (L := leadsF bs) (by rw [say_len]; exact (List.length_map ..).symm) (i := i) (j := j) (by rw [say_len]; exact hi) (by rw [say_len]; exact hj)
  refine ⟨fun x y hx hy v => ?_, fun x y hx hy ne => ?_, fun x y hx hy c ne => ?_⟩
  · unfold setM at v
    by_cases d : x = i ∧ y = j
    · rw [if_pos d] at v
      rw [d.1, d.2]
      exact fun z => zip_sound h1 _ _ (lead_lt okp hi) (lead_lt okp hj) v (say_leads hN hi hj z)
    · rw [if_neg d] at v
      exact h1 x y hx hy v
  · unfold setM
    by_cases d : x = i ∧ y = j
    · rw [d.1, d.2] at ne
      exact absurd same ne
    · rw [if_neg d]
      exact h2 x y hx hy ne
  · unfold setM
    by_cases d : x = i ∧ y = j
    · rw [if_pos d]
      rw [d.1, d.2] at ne
      refine zip_prog h2 _ _ (shape_len hi hj (say_shape ok hi hj t same)) (lead_lt okp hi) (lead_lt okp hj) fun z => ne ?_
      exact iff.mpr ⟨same, z⟩
    · rw [if_neg d]
      exact h3 x y hx hy (by omega) ne
theorem RI.row {t i : Nat} {m : Nat → Nat → Bool} (h : RI bs N t i bs.length m) : RI bs N t (i + 1) 0 m := ⟨h.1, h.2.1, fun x y hx hy c ne => h.2.2 x y hx hy (by omega) ne⟩
theorem RI.turn {t : Nat} {m : Nat → Nat → Bool} (h : RI bs N t bs.length 0 m) : RI bs N (t + 1) 0 0 m := ⟨h.1, fun x y hx hy ne => h.2.2 x y hx hy (.inl hx) ne, fun x y _ _ c => by omega⟩
theorem RI.done (okp : ∀ x ∈ bs, ∀ p ∈ x.2.places, p < bs.length) (hN : sayIt bs (N + 1) = sayIt bs N) (hk : ∀ k, k < N → sayIt bs (k + 1) ≠ sayIt bs k) {m : Nat → Nat → Bool} (h : RI bs N bs.length 0 0 m) {x y : Nat} (hx : x < bs.length) (hy : y < bs.length) :
    m x y = !decide (gAt (sayIt bs N) x = gAt (sayIt bs N) y) := by
  by_cases c : gAt (sayIt bs N) x = gAt (sayIt bs N) y
  · rw [decide_eq_true c]
    cases e : m x y with
    | false => rfl
    | true => exact absurd c (h.1 x y hx hy e)
  · rw [decide_eq_false c]
    refine h.2.1 x y hx hy ?_
    have few := say_few okp hk
    have keep := say_keep hN (bs.length - N)
    rw [show N + (bs.length - N) = bs.length by omega] at keep
    rw [keep]
    exact c
/-- the number of the next one -/
theorem fc_next {g : Nat → Nat} {n i : Nat} (h : FC g n) (hi : i < n) : (∃ j, j < i ∧ g j = g i ∧ ∀ k, k < j → g k ≠ g i) ∨ ((∀ j, j < i → g j ≠ g i) ∧ ∀ z : Int, (z ∈ (-1 : Int) :: (List.range i).map fun j => (g j : Int)) → (∀ y ∈ (-1 : Int) :: (List.range i).map fun j => (g j : Int), y ≤ z) → z + 1 = (g i : Int)) := by
  rcases h i hi with ⟨j, j1, j2⟩ | ⟨h1, h2⟩
  · obtain ⟨a, a1, a2, a3⟩ := least_of (P := fun j => g j = g i) j1 j2
    exact .inl ⟨a, a1, a2, a3⟩
  · refine .inr ⟨fun j hj z => by have := h1 j hj; omega, fun z hz top => ?_⟩
    have lo : (g i : Int) ≤ z + 1 := by
      by_cases c : g i = 0
      · have := top (-1) (List.mem_cons_self ..)
        omega
      · obtain ⟨j, j1, j2⟩ := h2 (g i - 1) (by omega)
        have := top (g j : Int) (List.mem_cons_of_mem _ (List.mem_map.mpr ⟨j, List.mem_range.mpr j1, rfl⟩))
        omega
    have hi' : z + 1 ≤ (g i : Int) := by
      rcases List.mem_cons.mp hz with e | e
      · omega
      · obtain ⟨j, j1, j2⟩ := List.mem_map.mp e
        have := h1 j (List.mem_range.mp j1)
        omega
    omega
end
end V


set_option Elab.async false
set_option linter.all false
set_option maxRecDepth 100000
set_option maxHeartbeats 4000000
namespace V
open PySem PySem.Spec PyProof.Rows L2
/-! ### for use within a comprehension: the frag is named -/
theorem call_len_seqK {X : Cx} {K : PySem.W.Frag} (hK : X.K = K) : CallR X (.builtin "len") (fun xs H Q => ∃ p ys, xs = [.ref p] ∧ (SqL K H p ys ∨ SqT K H p ys) ∧ Q (.int ys.length) H) := by
  subst hK
  exact call_len_seq
theorem op_neDK {X : Cx} {K : PySem.W.Frag} (hK : X.K = K) (hu : X.A.units + 64 < cLine) : OpR X (compareOp .NotEq) (rNeD K) := by
  subst hK
  exact op_neD hu
theorem op_eqDK {X : Cx} {K : PySem.W.Frag} (hK : X.K = K) (hu : X.A.units + 64 < cLine) : OpR X (compareOp .Eq) (rEqD K) := by
  subst hK
  exact op_eqD hu
theorem cr_maxK {X : Cx} {K : PySem.W.Frag} (hK : X.K = K) (hc : X.calm = true) : CallR X (.builtin "max") (rMax K) := by
  subst hK
  exact cr_max hc
theorem sl_listK {X : Cx} {K : PySem.W.Frag} (hK : X.K = K) : SlR X (rSlL K) := by
  subst hK
  exact sl_list
theorem mt_indexK {X : Cx} {K : PySem.W.Frag} (hK : X.K = K) : MtR X "list.index" (rIndex K) := by
  subst hK
  exact mt_index
theorem pe_bmK {X : Cx} {K : PySem.W.Frag} {ob ea : Expr} {er : List Expr} {to : TE} {t : TA} {name : Str} {p1 p2 : Pos} {T id : String} {r : V → List V → Hp → VK → Prop} (hK : X.K = K) (pa : PlainAttrs T) (slot : Slot T name id)
    (hty : typeOf (.builtin id) = pure (.type "method_descriptor")) (hm : MtR X id r) (ho : PE X ob to) (ha : PA X (ea :: er) t) (hbase : attributeBase ob name X.env (eval ob X.env) = eval ob X.env := by rfl)
    (hfew : ((backTo p2 (starEach (ea :: er) X.env)).all (fun x => !x.1) && (backToKw p2 (keywordEach [] X.env)).all (fun x => x.1.isSome)
      && decide ((ea :: er).length + ([] : List Keyword).length + (if ([] : List Keyword).isEmpty then 0 else 1) < 30)) = true := by rfl)
    (hline : (p1.endLine == p2.line) = true := by rfl) (hs : starEach (ea :: er) X.env = (false, eval ea X.env) :: starEach er X.env := by rfl) (hplain : (backTo p2 (starEach er X.env)).any (·.1) = false := by rfl) :
    PE X (.Call (.Attribute ob name p1) (ea :: er) [] p2) (tBM K T r to t) := by
  subst hK
  exact pe_bm pa slot hty hm ho ha hbase hfew hline hs hplain
/-- a def without arguments, called -/
theorem pe_fn0 {X : Cx} {j k : Nat} {x : Str} {sp : Sp} {p pos : Pos} (C : Cal X.prog X.w X.K X.mg X.base k x [] sp) (hr : Room j X.A) (hk : k ≤ j) (hg : Gl X x := by rfl) (hdb : (x == ("__debug__" : Str)) = false := by decide) :
    PE X (.Call (.Name x p) [] [] pos) (tFn sp tNil) := by
  obtain ⟨f, fd, F, h1, h2, h3⟩ := C.ex
  exact pe_call0 (ds := []) (dvs := []) (E := E0) (p := p) F (hr.mono hk) hg h1 h2 h3 .nil pass0 hdb
end V


set_option Elab.async false
set_option linter.all false
set_option maxRecDepth 100000
set_option maxHeartbeats 4000000
namespace V
open PySem PySem.Spec PyProof.Rows L2 Evl TL NumText
def spLawSay (K : PySem.W.Frag) : Sp := fun vs H Q _ => ∃ (a : Addr) (xs : List V) (bs : List (Nat × Tm)) (N : Nat), vs = [.ref a] ∧ H a = some (.lst xs) ∧ BodsAt H xs bs ∧ bs.length ≤ 100 ∧ (∀ x ∈ bs, x.2.Ok 11 ∧ x.2.deep ≤ 8 ∧ x.2.size ≤ 1000) ∧
  (∀ x ∈ bs, ∀ p ∈ x.2.places, p < bs.length) ∧ sayIt bs (N + 1) = sayIt bs N ∧ (∀ k, k < N → sayIt bs (k + 1) ≠ sayIt bs k) ∧
  ∀ (H' : Hp) (p : Addr), H p = none → Ex H H' → H' p = some (.lst (intsV (sayIt bs N))) → Q (.ref p) H'
theorem Tm.Ok.weak {M M' : Nat} (h : M ≤ M') : ∀ {t : Tm}, t.Ok M → t.Ok M' := by
  intro t k
  induction k with
  | num h => exact .num h
  | arg h => exact .arg h
  | @node hd ts ho _ ih =>
    refine .node ?_ ih
    cases hd with
    | op o => exact ho
    | call m => exact ho
    | ring p => exact ⟨Nat.le_trans ho.1 h, ho.2⟩
theorem flat_one (n : Nat) (v : V) : (List.replicate n [v]).flatten = List.replicate n v := by
  induction n with
  | zero => rfl
  | succ n ih => rw [List.replicate_succ, List.flatten_cons, ih]; rfl
/-- the lists of the spots -/
def SpotsAt (H : Hp) (Sp : Addr) (bs : List (Nat × Tm)) : Prop := ∃ ws, H Sp = some (.lst ws) ∧ ws.length = bs.length ∧ ∀ (i : Nat) (x : Nat × Tm), bs[i]? = some x → ∃ r, ws[i]? = some (.ref r) ∧ H r = some (.lst (intsV x.2.places))
/-- a square of truths -/
def MatAt (H : Hp) (Ap : Addr) (rs : List Addr) (n : Nat) (m : Nat → Nat → Bool) : Prop := H Ap = some (.lst (rs.map V.ref)) ∧ rs.length = n ∧ (∀ (i : Nat) (r : Addr), rs[i]? = some r → H r = some (.lst ((List.range n).map fun j => V.bl (m i j)))) ∧ rs.Nodup ∧ Ap ∉ rs
theorem MatAt.row {H : Hp} {Ap : Addr} {rs : List Addr} {n : Nat} {m : Nat → Nat → Bool} (h : MatAt H Ap rs n m) {i : Nat} (hi : i < n) : ∃ r, rs[i]? = some r ∧ H r = some (.lst ((List.range n).map fun j => V.bl (m i j))) := by
  obtain ⟨h1, h2, h3, h4⟩ := h
  have e := List.getElem?_eq_getElem (show i < rs.length by omega)
  exact ⟨_, e, h3 _ _ e⟩
theorem MatAt.ex {H H' : Hp} {Ap : Addr} {rs : List Addr} {n : Nat} {m : Nat → Nat → Bool} (h : MatAt H Ap rs n m) (e : Ex H H') : MatAt H' Ap rs n m := by
  obtain ⟨h1, h2, h3, h4⟩ := h
  exact ⟨e _ _ h1, h2, fun i r hr => e _ _ (h3 i r hr), h4⟩
theorem set_range (n j : Nat) (f : Nat → V) (v : V) : ((List.range n).map f).set j v = (List.range n).map fun k => if k = j then v else f k := by
  refine List.ext_getElem? fun k => ?_
  rw [List.getElem?_set, List.getElem?_map, List.getElem?_map, List.length_map, List.length_range]
  by_cases c : k < n
  · rw [List.getElem?_range c]
    by_cases d : j = k
    · rw [if_pos d, if_pos (by omega)]
      show some v = some (if k = j then v else f k)
      rw [if_pos d.symm]
    · rw [if_neg d]
      show some (f k) = some (if k = j then v else f k)
      rw [if_neg (fun z => d z.symm)]
  · rw [List.getElem?_eq_none (show (List.range n).length ≤ k by rw [List.length_range]; omega)]
    by_cases d : j = k
    · rw [if_pos d, if_neg (by omega)]
      rfl
    · rw [if_neg d]
      rfl
theorem MatAt.set {H : Hp} {Ap : Addr} {rs : List Addr} {n : Nat} {m : Nat → Nat → Bool} (h : MatAt H Ap rs n m) {i j : Nat} {r : Addr} {v : Bool} (hr : rs[i]? = some r) : MatAt (upd H r (.lst (((List.range n).map fun j => V.bl (m i j)).set j (.bl v)))) Ap rs n (setM m i j v) := by
  obtain ⟨h1, h2, h3, h4, h5⟩ := h
  have ra : Ap ≠ r := fun z => h5 (z ▸ List.mem_of_getElem? hr)
  refine ⟨by rw [upd_ne ra]; exact h1, h2, fun k r2 hk => ?_, h4, h5⟩
  by_cases c : k = i
  · subst c
    rw [hr] at hk
    cases hk
    rw [upd_same, set_range]
    refine congrArg (fun l => some (HO.lst l)) (List.map_congr_left fun y _ => ?_)
    unfold setM
    by_cases d : y = j
    · rw [if_pos d, if_pos ⟨rfl, d⟩]
    · rw [if_neg d, if_neg fun z => d z.2]
  · have ne : r2 ≠ r := fun z => by
      rw [z] at hk
      exact c ((List.getElem?_inj (List.getElem?_eq_some_iff.mp hk).1 h4).mp (hk.trans hr.symm))
    rw [upd_ne ne, h3 k r2 hk]
    refine congrArg (fun l => some (HO.lst l)) (List.map_congr_left fun y _ => ?_)
    unfold setM
    rw [if_neg fun z => c z.1]
theorem ixN_of {n j : Nat} (h : j < n) : ixN n (j : Int) = some j := by
  unfold ixN
  rw [if_pos (by omega), if_pos (by omega), Int.toNat_natCast]
theorem ints_dps {K : PySem.W.Frag} {H : Hp} : ∀ l : List Nat, DpAll K H (intsV l) (l.map fun x : Nat => .int (x : Int))
  | [] => .nil
  | x :: l => .cons (.int _) (ints_dps l)
theorem take_gAt {G : List Nat} {i : Nat} (h : i ≤ G.length) : G.take i = (List.range i).map (gAt G) := by
  refine List.ext_getElem? fun k => ?_
  rw [List.getElem?_take, List.getElem?_map]
  by_cases c : k < i
  · rw [if_pos c, List.getElem?_range c]
    unfold gAt
    rw [Option.map_some, List.getD_eq_getElem?_getD, List.getElem?_eq_getElem (by omega)]
    rfl
  · rw [if_neg c, List.getElem?_eq_none (show (List.range i).length ≤ k by rw [List.length_range]; omega)]
    rfl
end V


set_option Elab.async false
set_option linter.all false
set_option maxRecDepth 100000
set_option maxHeartbeats 4000000
namespace V
open PySem PySem.Spec PyProof.Rows L2 Evl TL NumText
/-! ### bodies that are shown -/
theorem word_fin {x : Str} (h : x.cps.toList.all (fun c => decide (c < 128)) = true) (l : x.length ≤ 40) : FinD 0 (.str x) := .str (by omega) fun c hc => of_decide_eq_true (List.all_eq_true.mp h c hc)
theorem tm_fin {M : Nat} (hM : M ≤ 1000002) : ∀ t : Tm, t.Ok M → FinD 0 t.py ∧ wtD t.py ≤ 5 * t.size := by
  intro t
  induction t using Tm.ind with
  | h1 k =>
    intro o
    cases o with
    | num h => exact ⟨.tup fun d hd => by
        simp only [List.mem_cons, List.not_mem_nil, or_false] at hd
        rcases hd with rfl | rfl
        · exact word_fin (by decide +kernel) (by decide +kernel)
        · exact .int (by omega), by show wtD (.tuple [_, _]) ≤ 5 * 1; simp [wtD, wtsD]⟩
  | h2 k =>
    intro o
    cases o with
    | arg h => exact ⟨.tup fun d hd => by
        simp only [List.mem_cons, List.not_mem_nil, or_false] at hd
        rcases hd with rfl | rfl
        · exact word_fin (by decide +kernel) (by decide +kernel)
        · exact .int (by omega), by show wtD (.tuple [_, _]) ≤ 5 * 1; simp [wtD, wtsD]⟩
  | h3 h ts ih =>
    intro o
    have sub : ∀ us : List Tm, (∀ u ∈ us, u ∈ ts) → (∀ d ∈ Tm.pys us, FinD 0 d) ∧ wtsD (Tm.pys us) ≤ 5 * Tm.sizes us := by
      intro us
      induction us with
      | nil => exact fun _ => ⟨(fun d hd => by cases hd), Nat.zero_le _⟩
      | cons u us ih2 =>
        intro hm
        obtain ⟨a1, a2⟩ := ih u (hm u (List.mem_cons_self ..)) (o.parts (hm u (List.mem_cons_self ..)))
        obtain ⟨b1, b2⟩ := ih2 fun v hv => hm v (List.mem_cons_of_mem _ hv)
        refine ⟨fun d hd => ?_, by show wtD u.py + wtsD (Tm.pys us) ≤ 5 * (u.size + Tm.sizes us); omega⟩
        rcases List.mem_cons.mp (show d ∈ u.py :: Tm.pys us from hd) with rfl | hd
        · exact a1
        · exact b1 d hd
    obtain ⟨s1, s2⟩ := sub ts fun _ z => z
    have sz : (Tm.node h ts).size = 1 + Tm.sizes ts := rfl
    cases h with
    | op p =>
      refine ⟨.tup fun d hd => ?_, ?_⟩
      · rcases List.mem_cons.mp (show d ∈ .str p.str :: Tm.pys ts from hd) with rfl | hd
        · cases p <;> exact word_fin (by decide +kernel) (by decide +kernel)
        · exact s1 d hd
      · show wtD (.tuple (.str p.str :: Tm.pys ts)) ≤ _
        simp only [wtD, wtsD]
        omega
    | call m =>
      cases o with
      | node ho _ =>
      refine ⟨.tup fun d hd => ?_, ?_⟩
      · simp only [List.mem_cons, List.not_mem_nil, or_false] at hd
        rcases hd with rfl | rfl | rfl
        · exact word_fin (by decide +kernel) (by decide +kernel)
        · exact .str (by rw [ho.1.1]; decide) fun c hc => by have := ho.1.2 c hc; omega
        · exact .tup s1
      · show wtD (.tuple [.str "call", .str m, .tuple (Tm.pys ts)]) ≤ _
        simp only [wtD, wtsD]
        omega
    | ring p =>
      cases o with
      | node ho _ =>
      refine ⟨.tup fun d hd => ?_, ?_⟩
      · simp only [List.mem_cons, List.not_mem_nil, or_false] at hd
        rcases hd with rfl | rfl | rfl
        · exact word_fin (by decide +kernel) (by decide +kernel)
        · exact .int (by have := ho.1; omega)
        · exact .tup s1
      · show wtD (.tuple [.str "ring", .int (p : Int), .tuple (Tm.pys ts)]) ≤ _
        simp only [wtD, wtsD]
        omega
/-- bodies as laws draw them -/
structure GoodB (bs : List (Nat × Tm)) : Prop where
  pos : 1 ≤ bs.length
  few : bs.length ≤ 12
  ok : ∀ x ∈ bs, x.1 ≤ 4 ∧ x.2.Ok 11 ∧ x.2.deep ≤ 6 ∧ x.2.size ≤ 100
  at_ : ∀ x ∈ bs, ∀ p ∈ x.2.places, p < bs.length
theorem GoodB.of {calls : List (Hd × Nat)} {bs : List (Nat × Tm)} (l1 : 1 ≤ bs.length) (l2 : bs.length ≤ 12) (F : Fits calls bs) (C : CallsOk calls) (z : ∀ x ∈ bs, x.2.deep ≤ 5 ∧ x.2.size ≤ 85) : GoodB bs := by
  have lc : (bs.map (·.1)).length = bs.length := List.length_map ..
  have ho : HdsOk 11 (nearH (bs.map (·.1)) ++ calls) := (nearH_ok (by omega) fun c hc => (by obtain ⟨x, hx, rfl⟩ := List.mem_map.mp hc; exact (F x hx).1)).app C.ok
  refine ⟨l1, l2, fun x hx => ⟨(F x hx).1, (F x hx).2.okk (F x hx).1 ho, by have := (z x hx).1; omega, by have := (z x hx).2; omega⟩, fun x hx p hp => ?_⟩
  rw [← lc]
  exact (F x hx).2.places C _ p hp
theorem GoodB.fin {bs : List (Nat × Tm)} (g : GoodB bs) : (∀ d ∈ bs.map bodD, FinD 0 d) ∧ wtsD (bs.map bodD) ≤ 503 * bs.length ∧ ∀ d ∈ bs.map bodD, d.depth ≤ 40 := by
  have one : ∀ x ∈ bs, FinD 0 (bodD x) ∧ wtD (bodD x) ≤ 503 ∧ (bodD x).depth ≤ 40 := fun x hx => by
    obtain ⟨o1, o2, o3, o4⟩ := g.ok x hx
    obtain ⟨f1, f2⟩ := tm_fin (by decide) x.2 o2
    have dp := (py_lay x.2 o2).2
    refine ⟨.tup fun d hd => ?_, ?_, ?_⟩
    · simp only [List.mem_cons, List.not_mem_nil, or_false] at hd
      rcases hd with rfl | rfl
      · exact .int (by omega)
      · exact f1
    · show wtD (.tuple [.int (x.1 : Int), x.2.py]) ≤ _
      simp only [wtD, wtsD]
      omega
    · show PyData.depth (.tuple [.int (x.1 : Int), x.2.py]) ≤ 40
      simp only [PyData.depth, PyData.depthAll]
      omega
  refine ⟨fun d hd => ?_, ?_, fun d hd => ?_⟩
  · obtain ⟨x, hx, rfl⟩ := List.mem_map.mp hd
    exact (one x hx).1
  · have : ∀ l : List (Nat × Tm), (∀ x ∈ l, x ∈ bs) → wtsD (l.map bodD) ≤ 503 * l.length := by
      intro l
      induction l with
      | nil => exact fun _ => Nat.zero_le _
      | cons x l ih =>
        intro h
        have a := (one x (h x (List.mem_cons_self ..))).2.1
        have b := ih fun y hy => h y (List.mem_cons_of_mem _ hy)
        show wtD (bodD x) + wtsD (l.map bodD) ≤ 503 * (l.length + 1)
        omega
    exact this bs fun _ z => z
  · obtain ⟨x, hx, rfl⟩ := List.mem_map.mp hd
    exact (one x hx).2.2
theorem GoodB.show {bs : List (Nat × Tm)} (g : GoodB bs) {d : PyData} (h : d = .list (bs.map bodD) ∨ d = .tuple (bs.map bodD)) : d.showable = true ∧ d.hasDict = false ∧ d.depth ≤ 64 ∧ d.shown.length ≤ sizeLine := by
  obtain ⟨f1, f2, f3⟩ := g.fin
  have few := g.few
  have dd := dep_all f3
  have f : FinD 0 d := by
    rcases h with rfl | rfl
    · exact .lst f1
    · exact .tup f1
  have w : wtD d ≤ 6037 := by
    rcases h with rfl | rfl <;> simp only [wtD] <;> omega
  have e : d.depth ≤ 64 := by
    rcases h with rfl | rfl <;> simp only [PyData.depth] <;> omega
  have s := f.shown (by decide)
  have big : sizeLine = 16777216 := sizeLine_eq
  exact ⟨f.able (by decide), PyData.hasDict_of_canLay _ f.lay, e, by omega⟩
def spRight8 : Sp := fun vs H Q _ => ∃ (b : Addr) (n : Nat), vs = [.ref b] ∧ Box H b (n + 20040) ∧ ∀ (H' : Hp), But b H H' → Box H' b n → Q (.bl true) H'
theorem BodsAt.set {H : Hp} : ∀ {vs : List V} {xs : List (Nat × Tm)} {j : Nat} {v : V} {x : Nat × Tm}, BodsAt H vs xs → BodAt H v x → BodsAt H (vs.set j v) (xs.set j x)
  | _, _, _, _, _, .nil, _ => .nil
  | _, _, 0, _, _, .cons _ hs, k => .cons k hs
  | _, _, j + 1, _, _, .cons h hs, k => .cons h (hs.set k)
theorem GoodB.swap {bs : List (Nat × Tm)} (g : GoodB bs) {j c : Nat} {t : Tm} (h : bs[j]? = some (c, t)) : (∀ x ∈ bs.set j (c, .node (.op .add) [.num 11, t]), x.2.Ok 11 ∧ x.2.deep ≤ 8 ∧ x.2.size ≤ 1000) ∧ ∀ x ∈ bs.set j (c, .node (.op .add) [.num 11, t]), ∀ p ∈ x.2.places, p < (bs.set j (c, .node (.op .add) [.num 11, t])).length := by
  have mt := List.mem_of_getElem? h
  obtain ⟨o1, o2, o3, o4⟩ := g.ok _ mt
  rw [List.length_set]
  refine ⟨fun x hx => ?_, fun x hx p hp => ?_⟩
  · rcases List.mem_or_eq_of_mem_set hx with hx | rfl
    · obtain ⟨a1, a2, a3, a4⟩ := g.ok x hx
      exact ⟨a2, by omega, by omega⟩
    · refine ⟨.node rfl fun u hu => ?_, ?_, ?_⟩
      · simp only [List.mem_cons, List.not_mem_nil, or_false] at hu
        rcases hu with rfl | rfl
        · exact .num (by decide)
        · exact o2
      · show 1 + max 1 (max t.deep 0) ≤ 8
        have : t.deep ≤ 6 := o3
        omega
      · show 1 + (1 + (t.size + 0)) ≤ 1000
        have : t.size ≤ 100 := o4
        omega
  · rcases List.mem_or_eq_of_mem_set hx with hx | rfl
    · exact g.at_ x hx p hp
    · rw [places_node] at hp
      have hp' : p ∈ t.places := by
        have e : [Tm.num 11, t].flatMap Tm.places = t.places := by
          show (Tm.num 11).places ++ (t.places ++ []) = t.places
          rw [List.append_nil]
          rfl
        rw [e] at hp
        exact hp
      exact g.at_ _ mt p hp'
end V


set_option Elab.async false
set_option linter.all false
set_option maxRecDepth 100000
set_option maxHeartbeats 4000000
namespace V
open PySem PySem.Spec PyProof.Rows L2 Evl
theorem cutV_map {α : Type} (f : α → V) (xs : List α) (lo hi : Option Int) :
    cutV (xs.map f) lo hi = ((xs.drop (HT.sIx xs.length 0 lo)).take (HT.sIx xs.length xs.length hi - HT.sIx xs.length 0 lo)).map f := by
  unfold cutV
  rw [List.length_map, List.map_take, List.map_drop]
/-- the first numbers of the script, those behind added on -/
def spFold (K : PySem.W.Frag) : Sp := fun vs H Q _ => ∃ (a : Addr) (ns : List Int) (size : Nat), vs = [.ref a, .int (size : Int)] ∧ SqL K H a (ns.map V.int) ∧ ns.length ≤ 63 ∧ 0 < size ∧ size ≤ 10 ∧
  ∀ (H' : Hp) (p : Addr) (ms : List Int), H p = none → Ex H H' → H' p = some (.lst (ms.map V.int)) → ms.length ≤ size → Q (.ref p) H'
end V


set_option Elab.async false
set_option linter.all false
set_option maxRecDepth 100000
set_option maxHeartbeats 4000000
namespace V
open PySem PySem.Spec PyProof.Rows L2 Evl TL NumText
/-! ### bodies known by hand -/
def rg (p : Nat) (ts : List Tm) : Tm := .node (.ring p) ts
def opT (o : Op) (ts : List Tm) : Tm := .node (.op o) ts
def stepB (n p : Nat) : Nat × Tm := (0, opT .add [.num n, rg p []])
def kStep : Tm := opT .less [.arg 0, .num 1]
def kEven : Tm := opT .cond [.arg 0, rg 1 [kStep], .num 1]
def kOdd : Tm := opT .cond [.arg 0, rg 0 [kStep], .num 0]
def kTwelve : List (Nat × Tm) := (List.range 12).map fun k => stepB 1 ((k + 1) % 12)
def kSix (m : Nat) : List (Nat × Tm) := (List.range 6).map fun k => stepB (k % m) ((k + 1) % 6)
def kDeep (n : Nat) : Tm := opT .times [opT .add [.num 3, opT .cond [.arg 0, .arg 0, .num n]], .arg 0]
def kTwo : List (Nat × Tm) := [(0, opT .add [rg 2 [], rg 3 []]), (0, opT .add [rg 2 [], rg 2 []]), (0, .num 1), (0, .num 2)]
theorem t1 : sayIt [(1, kEven), (1, kOdd)] 2 = [0, 1] := by decide +kernel
theorem t2 : sayIt (kSix 2) 6 = [0, 1, 0, 1, 0, 1] := by decide +kernel
theorem t3 : sayIt (kTwelve.take 11 ++ [stepB 2 0]) 12 = [0, 1, 2, 3, 4, 5, 6, 7, 8, 9, 10, 11] := by decide +kernel
end V


set_option Elab.async false
set_option linter.all false
set_option maxRecDepth 100000
set_option maxHeartbeats 4000000
namespace V
open PySem PySem.Spec PyProof.Rows L2 Evl TL NumText
/-! ### the same bodies in another order -/
def placeIn (o : List Nat) (x : Nat) : Nat := o.findIdx fun y => decide (y = x)
theorem placeIn_get {o : List Nat} {x : Nat} (h : x ∈ o) : o[placeIn o x]? = some x := by
  have l : placeIn o x < o.length := List.findIdx_lt_length_of_exists ⟨x, h, decide_eq_true rfl⟩
  have e := List.findIdx_getElem (p := fun y => decide (y = x)) (w := l)
  rw [List.getElem?_eq_getElem l]
  exact congrArg some (of_decide_eq_true e)
theorem placeIn_lt {o : List Nat} {x : Nat} (h : x ∈ o) : placeIn o x < o.length := List.findIdx_lt_length_of_exists ⟨x, h, decide_eq_true rfl⟩
/-- all places below n, each once -/
structure Ord (o : List Nat) (n : Nat) : Prop where
  len : o.length = n
  lt : ∀ x ∈ o, x < n
  nd : o.Nodup
theorem Ord.mem {o : List Nat} {n : Nat} (h : Ord o n) {x : Nat} (hx : x < n) : x ∈ o := by
  refine Classical.byContradiction fun no => ?_
  have nd2 : (x :: o).Nodup := List.nodup_cons.mpr ⟨no, h.nd⟩
  have := nodup_le n (x :: o) nd2 fun y hy => by
    rcases List.mem_cons.mp hy with rfl | hy
    · exact hx
    · exact h.lt y hy
  rw [List.length_cons, h.len] at this
  omega
def movedB (bs : List (Nat × Tm)) (o : List Nat) : List (Nat × Tm) := o.map fun x => ((bs.getD x (0, .num 0)).1, (bs.getD x (0, .num 0)).2.pl ((bs.getD x (0, .num 0)).2.places.map (placeIn o)))
theorem pl_places : ∀ (t : Tm) (l : List Nat), t.places.length ≤ l.length → (t.pl l).places = l.take t.places.length := by
  intro t
  induction t using Tm.ind with
  | h1 k => exact fun l _ => rfl
  | h2 k => exact fun l _ => rfl
  | h3 h ts ih =>
    intro l hl
    have all : ∀ (us : List Tm) (l : List Nat), (∀ u ∈ us, u ∈ ts) → (us.flatMap Tm.places).length ≤ l.length → (Tm.plc us l).flatMap Tm.places = l.take (us.flatMap Tm.places).length := by
      intro us
      induction us with
      | nil => exact fun l _ _ => by rw [List.flatMap_nil, List.length_nil, List.take_zero]; rfl
      | cons v us ih2 =>
        intro l hm hl
        rw [List.flatMap_cons, List.length_append] at hl ⊢
        show (v.pl l).places ++ (Tm.plc us (l.drop v.places.length)).flatMap Tm.places = _
        rw [ih v (hm v (List.mem_cons_self ..)) l (by omega), ih2 _ (fun u hu => hm u (List.mem_cons_of_mem _ hu)) (by rw [List.length_drop]; omega), ← List.take_add]
    rw [places_node, List.length_append] at hl ⊢
    show (Tm.node (h.pl l) (Tm.plc ts (l.drop h.ps.length))).places = _
    rw [places_node, all ts _ (fun _ z => z) (by rw [List.length_drop]; omega)]
    have e : (h.pl l).ps = l.take h.ps.length := by
      cases h with
      | op o => exact (List.take_zero ..).symm
      | call m => exact (List.take_zero ..).symm
      | ring p =>
        cases l with
        | nil => exact absurd hl (by show ¬ (1 + _ ≤ 0); omega)
        | cons x l => rfl
    rw [e, ← List.take_add]
theorem pl_shape : ∀ (t : Tm) (l : List Nat), (t.pl l).re shapeF = t.re shapeF := by
  intro t
  induction t using Tm.ind with
  | h1 k => exact fun l => rfl
  | h2 k => exact fun l => rfl
  | h3 h ts ih =>
    intro l
    have all : ∀ (us : List Tm) (l : List Nat), (∀ u ∈ us, u ∈ ts) → Tm.res shapeF (Tm.plc us l) = Tm.res shapeF us := by
      intro us
      induction us with
      | nil => exact fun l _ => rfl
      | cons v us ih2 =>
        intro l hm
        show (v.pl l).re shapeF :: Tm.res shapeF (Tm.plc us _) = v.re shapeF :: Tm.res shapeF us
        rw [ih v (hm v (List.mem_cons_self ..)), ih2 _ fun u hu => hm u (List.mem_cons_of_mem _ hu)]
    show Tm.node ((h.pl l).re shapeF) (Tm.res shapeF (Tm.plc ts _)) = .node (h.re shapeF) (Tm.res shapeF ts)
    rw [all ts _ fun _ z => z]
    cases h <;> rfl
theorem pl_ok {M : Nat} : ∀ (t : Tm) (l : List Nat), t.Ok M → (∀ x ∈ l, x ≤ M) → (t.pl l).Ok M := by
  intro t
  induction t using Tm.ind with
  | h1 k => exact fun l h _ => h
  | h2 k => exact fun l h _ => h
  | h3 h ts ih =>
    intro l ho hl
    have all : ∀ (us : List Tm) (l : List Nat), (∀ u ∈ us, u ∈ ts) → (∀ x ∈ l, x ≤ M) → ∀ u ∈ Tm.plc us l, u.Ok M := by
      intro us
      induction us with
      | nil => exact fun l _ _ u hu => by cases hu
      | cons v us ih2 =>
        intro l hm hl u hu
        rcases List.mem_cons.mp (show u ∈ v.pl l :: Tm.plc us (l.drop v.places.length) from hu) with rfl | hu
        · exact ih v (hm v (List.mem_cons_self ..)) l (ho.parts (hm v (List.mem_cons_self ..))) hl
        · exact ih2 _ (fun u hu => hm u (List.mem_cons_of_mem _ hu)) (fun x hx => hl x (List.mem_of_mem_drop hx)) u hu
    cases ho with
    | node hh _ =>
      refine .node ?_ (all ts _ (fun _ z => z) fun x hx => hl x (List.mem_of_mem_drop hx))
      rw [plc_len]
      cases h with
      | op o => exact hh
      | call m => exact hh
      | ring p =>
        refine ⟨?_, hh.2⟩
        cases l with
        | nil => exact Nat.zero_le _
        | cons x l => exact hl x (List.mem_cons_self ..)
section
variable {bs : List (Nat × Tm)} {o : List Nat}
theorem moved_len : (movedB bs o).length = o.length := List.length_map ..
theorem moved_get (ho : Ord o bs.length) {i x : Nat} (h : o[i]? = some x) : ∃ y, bs[x]? = some y ∧ (movedB bs o)[i]? = some (y.1, y.2.pl (y.2.places.map (placeIn o))) := by
  have hx := ho.lt x (List.mem_of_getElem? h)
  have e := List.getElem?_eq_getElem hx
  refine ⟨_, e, ?_⟩
  unfold movedB
  rw [List.getElem?_map, h, Option.map_some, List.getD_eq_getElem?_getD, e]
  rfl
theorem moved_lead (ho : Ord o bs.length) {i x : Nat} (h : o[i]? = some x) : leadAt (movedB bs o) i = (leadAt bs x).map (placeIn o) := by
  obtain ⟨y, h1, h2⟩ := moved_get ho h
  rw [lead_at h2, lead_at h1, pl_places _ _ (by rw [List.length_map]; exact Nat.le_refl _), List.take_of_length_le (by rw [List.length_map]; exact Nat.le_refl _)]
theorem moved_shape (ho : Ord o bs.length) {i x : Nat} (h : o[i]? = some x) : shapeAt (movedB bs o) i = shapeAt bs x := by
  obtain ⟨y, h1, h2⟩ := moved_get ho h
  unfold shapeAt
  rw [h2, h1]
  show some (y.1, (y.2.pl _).re shapeF) = some (y.1, y.2.re shapeF)
  rw [pl_shape]
theorem moved_ok (ho : Ord o bs.length) (hl : bs.length ≤ 12) (ok : ∀ x ∈ bs, x.2.Ok 11 ∧ x.2.deep ≤ 8 ∧ x.2.size ≤ 1000) (okp : ∀ x ∈ bs, ∀ p ∈ x.2.places, p < bs.length) :
    (∀ x ∈ movedB bs o, x.2.Ok 11 ∧ x.2.deep ≤ 8 ∧ x.2.size ≤ 1000) ∧ ∀ x ∈ movedB bs o, ∀ p ∈ x.2.places, p < (movedB bs o).length := by
  have each : ∀ z ∈ movedB bs o, ∃ y ∈ bs, z = (y.1, y.2.pl (y.2.places.map (placeIn o))) := fun z hz => by
    obtain ⟨i, hi⟩ := List.mem_iff_getElem?.mp hz
    obtain ⟨x, hx⟩ : ∃ x, o[i]? = some x := ⟨_, List.getElem?_eq_getElem (by rw [← moved_len (bs := bs)]; exact (List.getElem?_eq_some_iff.mp hi).1)⟩
    obtain ⟨y, h1, h2⟩ := moved_get ho hx
    rw [hi] at h2
    exact ⟨y, List.mem_of_getElem? h1, Option.some.inj h2⟩
  have lt : ∀ y ∈ bs, ∀ p ∈ y.2.places.map (placeIn o), p < bs.length := fun y hy p hp => by
    obtain ⟨q, hq, rfl⟩ := List.mem_map.mp hp
    have := placeIn_lt (ho.mem (okp y hy q hq))
    rw [ho.len] at this
    exact this
  refine ⟨fun z hz => ?_, fun z hz p hp => ?_⟩
  · obtain ⟨y, hy, rfl⟩ := each z hz
    obtain ⟨o1, o2, o3⟩ := ok y hy
    refine ⟨pl_ok _ _ o1 fun x hx => by have := lt y hy x hx; omega, ?_, ?_⟩
    · show (y.2.pl _).deep ≤ 8
      rw [(pl_deep _ _).1]
      exact o2
    · show (y.2.pl _).size ≤ 1000
      rw [(pl_deep _ _).2]
      exact o3
  · obtain ⟨y, hy, rfl⟩ := each z hz
    rw [moved_len, ho.len]
    have hp2 : p ∈ (y.2.pl (y.2.places.map (placeIn o))).places := hp
    rw [pl_places _ _ (by rw [List.length_map]; exact Nat.le_refl _)] at hp2
    exact lt y hy p (List.mem_of_mem_take hp2)
/-- .. and says the same -/
theorem moved_say (ho : Ord o bs.length) (hl : bs.length ≤ 12) (ok : ∀ x ∈ bs, x.2.Ok 11 ∧ x.2.deep ≤ 8 ∧ x.2.size ≤ 1000) (okp : ∀ x ∈ bs, ∀ p ∈ x.2.places, p < bs.length) :
    ∀ (k i j x y : Nat), o[i]? = some x → o[j]? = some y → (gAt (sayIt (movedB bs o) k) i = gAt (sayIt (movedB bs o) k) j ↔ gAt (sayIt bs k) x = gAt (sayIt bs k) y) := by
  obtain ⟨ok2, okp2⟩ := moved_ok ho hl ok okp
  have ln : ∀ {i x}, o[i]? = some x → i < (movedB bs o).length ∧ x < bs.length := fun {i x} h => ⟨by rw [moved_len]; exact (List.getElem?_eq_some_iff.mp h).1, ho.lt x (List.mem_of_getElem? h)⟩
  intro k
  induction k with
  | zero =>
    intro i j x y hi hj
    rw [say0_iff (fun x hx => ⟨(ok2 x hx).1, (ok2 x hx).2.1⟩) (ln hi).1 (ln hj).1, say0_iff (fun x hx => ⟨(ok x hx).1, (ok x hx).2.1⟩) (ln hi).2 (ln hj).2, moved_shape ho hi, moved_shape ho hj]
  | succ k ih =>
    intro i j x y hi hj
    have a := part_iff (G := sayIt (movedB bs o) k) (L := leadsF (movedB bs o)) (by rw [say_len]; exact (List.length_map ..).symm) (i := i) (j := j) (by rw [say_len]; exact (ln hi).1) (by rw [say_len]; exact (ln hj).1)
    have b := part_iff (G := sayIt bs k) (L := leadsF bs) (by rw [say_len]; exact (List.length_map ..).symm) (i := x) (j := y) (by rw [say_len]; exact (ln hi).2) (by rw [say_len]; exact (ln hj).2)
    refine a.trans (Iff.trans ?_ b.symm)
    rw [ih i j x y hi hj]
    have e : ∀ i x, o[i]? = some x → ((leadsF (movedB bs o)).getD i []).map (gAt (sayIt (movedB bs o) k)) = (leadAt bs x).map fun p => gAt (sayIt (movedB bs o) k) (placeIn o p) := fun i x h => by
      show (leadAt (movedB bs o) i).map _ = _
      rw [moved_lead ho h, List.map_map]
      rfl
    rw [e i x hi, e j y hj]
    have s := map_same (f := fun p => gAt (sayIt (movedB bs o) k) (placeIn o p)) (g := gAt (sayIt bs k)) (n := bs.length) (fun p q hp hq => ih _ _ p q (placeIn_get (ho.mem hp)) (placeIn_get (ho.mem hq))) (leadAt bs x) (leadAt bs y) (lead_lt okp (ln hi).2) (lead_lt okp (ln hj).2)
    exact and_congr_right fun _ => s
end
end V


set_option Elab.async false
set_option linter.all false
set_option maxRecDepth 100000
set_option maxHeartbeats 4000000
namespace V
open PySem PySem.Spec PyProof.Rows L2 Evl TL NumText
/-! ### the known ones, as they are laid -/
abbrev Bds := List (Nat × Tm)
def CaseAt (p : Addr) (H : Hp) (v : V) (c : Bds × Str) : Prop := ∃ (a l : Addr) (xs : List V), v = .ref a ∧ H a = some (.tup [.ref l, .str c.2]) ∧ H l = some (.lst xs) ∧ BodsAt H xs c.1 ∧ l ≠ p
inductive CasesAt (p : Addr) (H : Hp) : List V → List (Bds × Str) → Prop
  | nil : CasesAt p H [] []
  | cons {v : V} {vs : List V} {c : Bds × Str} {cs : List (Bds × Str)} : CaseAt p H v c → CasesAt p H vs cs → CasesAt p H (v :: vs) (c :: cs)
theorem CaseAt.but {p : Addr} {H H' : Hp} {v : V} {c : Bds × Str} {xs0 : List V} (h : CaseAt p H v c) (hp : H p = some (.lst xs0)) (e : But p H H') : CaseAt p H' v c := by
  obtain ⟨a, l, xs, h1, h2, h3, h4, h5⟩ := h
  have tu := e.tu hp
  exact ⟨a, l, xs, h1, tu _ _ h2, e _ _ h5 h3, h4.tu tu, h5⟩
theorem CasesAt.but {p : Addr} {H H' : Hp} {xs0 : List V} (hp : H p = some (.lst xs0)) (e : But p H H') : ∀ {vs : List V} {cs : List (Bds × Str)}, CasesAt p H vs cs → CasesAt p H' vs cs
  | _, _, .nil => .nil
  | _, _, .cons h hs => .cons (h.but hp e) (hs.but hp e)
theorem CasesAt.len {p : Addr} {H : Hp} : ∀ {vs : List V} {cs : List (Bds × Str)}, CasesAt p H vs cs → vs.length = cs.length
  | _, _, .nil => rfl
  | _, _, .cons _ hs => congrArg (· + 1) hs.len
theorem CasesAt.snoc {p : Addr} {H : Hp} : ∀ {vs : List V} {cs : List (Bds × Str)} {v : V} {c : Bds × Str}, CasesAt p H vs cs → CaseAt p H v c → CasesAt p H (vs ++ [v]) (cs ++ [c])
  | _, _, _, _, .nil, k => .cons k .nil
  | _, _, _, _, .cons h hs, k => .cons h (hs.snoc k)
theorem CasesAt.get {p : Addr} {H : Hp} : ∀ {vs : List V} {cs : List (Bds × Str)}, CasesAt p H vs cs → ∀ {i : Nat} {v : V}, vs[i]? = some v → ∃ c, cs[i]? = some c ∧ CaseAt p H v c
  | _, _, .nil, i, v, h => by cases h
  | _, _, .cons k ks, 0, v, h => by cases h; exact ⟨_, rfl, k⟩
  | _, _, .cons k ks, i + 1, v, h => ks.get h
def OTm (H : Hp) : Option V → Option Tm → Prop
  | none, none => True
  | some v, some t => TmAt H v t
  | _, _ => False
def OLs (p : Addr) (H : Hp) : Option V → Option Bds → Prop
  | none, none => True
  | some v, some bs => ∃ (l : Addr) (xs : List V), v = .ref l ∧ H l = some (.lst xs) ∧ BodsAt H xs bs ∧ l ≠ p
  | _, _ => False
def OPr (p : Addr) (H : Hp) : Option V → Option (List Tm) → Prop
  | none, none => True
  | some v, some ts => ∃ (l : Addr) (xs : List V), v = .ref l ∧ H l = some (.lst xs) ∧ TmsAt H xs ts ∧ l ≠ p
  | _, _ => False
theorem OTm.tu {H H' : Hp} (e : Tu H H') : ∀ {y : Option V} {o : Option Tm}, OTm H y o → OTm H' y o
  | none, none, h => h
  | some _, some _, h => TmAt.tu e h
theorem OLs.but {p : Addr} {H H' : Hp} {xs0 : List V} (hp : H p = some (.lst xs0)) (e : But p H H') : ∀ {y : Option V} {o : Option Bds}, OLs p H y o → OLs p H' y o
  | none, none, h => h
  | some _, some _, ⟨l, xs, h1, h2, h3, h4⟩ => ⟨l, xs, h1, e _ _ h4 h2, h3.tu (e.tu hp), h4⟩
theorem OPr.but {p : Addr} {H H' : Hp} {xs0 : List V} (hp : H p = some (.lst xs0)) (e : But p H H') : ∀ {y : Option V} {o : Option (List Tm)}, OPr p H y o → OPr p H' y o
  | none, none, h => h
  | some _, some _, ⟨l, xs, h1, h2, h3, h4⟩ => ⟨l, xs, h1, e _ _ h4 h2, h3.tu (e.tu hp), h4⟩
/-- what stands, and what the list of the known ones has -/
structure KE (H0 : Hp) (p : Addr) (H : Hp) (ws : List V) (cs : List (Bds × Str)) (y0 y1 y2 y3 y5 y6 y7 y8 y9 y10 y11 : Option V) (o0 o1 o2 o3 : Option Tm) (o5 o6 : Option Bds) (o7 o8 : Option Tm) (o9 : Option (List Tm)) (o10 o11 : Option Bds) : Prop where
  e : Ex H0 H
  n : H0 p = none
  l : H p = some (.lst ws)
  c : CasesAt p H ws cs
  h0 : OTm H y0 o0
  h1 : OTm H y1 o1
  h2 : OTm H y2 o2
  h3 : OTm H y3 o3
  h5 : OLs p H y5 o5
  h6 : OLs p H y6 o6
  h7 : OTm H y7 o7
  h8 : OTm H y8 o8
  h9 : OPr p H y9 o9
  h10 : OLs p H y10 o10
  h11 : OLs p H y11 o11
section
variable {H0 : Hp} {p : Addr} {H : Hp} {ws : List V} {cs : List (Bds × Str)} {y0 y1 y2 y3 y5 y6 y7 y8 y9 y10 y11 : Option V} {o0 o1 o2 o3 : Option Tm} {o5 o6 : Option Bds} {o7 o8 : Option Tm} {o9 : Option (List Tm)} {o10 o11 : Option Bds}
theorem KE.up {H' : Hp} (k : KE H0 p H ws cs y0 y1 y2 y3 y5 y6 y7 y8 y9 y10 y11 o0 o1 o2 o3 o5 o6 o7 o8 o9 o10 o11) (e : Ex H H') : KE H0 p H' ws cs y0 y1 y2 y3 y5 y6 y7 y8 y9 y10 y11 o0 o1 o2 o3 o5 o6 o7 o8 o9 o10 o11 :=
  have b : But p H H' := But.of e
  ⟨k.e.trans e, k.n, e _ _ k.l, k.c.but k.l b, k.h0.tu (Tu.of e), k.h1.tu (Tu.of e), k.h2.tu (Tu.of e), k.h3.tu (Tu.of e), k.h5.but k.l b, k.h6.but k.l b, k.h7.tu (Tu.of e), k.h8.tu (Tu.of e), k.h9.but k.l b, k.h10.but k.l b, k.h11.but k.l b⟩
theorem KE.add {v : V} {c : Bds × Str} (k : KE H0 p H ws cs y0 y1 y2 y3 y5 y6 y7 y8 y9 y10 y11 o0 o1 o2 o3 o5 o6 o7 o8 o9 o10 o11) (hc : CaseAt p H v c) : KE H0 p (upd H p (.lst (ws ++ [v]))) (ws ++ [v]) (cs ++ [c]) y0 y1 y2 y3 y5 y6 y7 y8 y9 y10 y11 o0 o1 o2 o3 o5 o6 o7 o8 o9 o10 o11 :=
  have b : But p H (upd H p (.lst (ws ++ [v]))) := But.upd (But.refl p H)
  have t := b.tu k.l
  ⟨Ex.mut k.e k.n, k.n, upd_same, (k.c.snoc hc).but k.l b, k.h0.tu t, k.h1.tu t, k.h2.tu t, k.h3.tu t, k.h5.but k.l b, k.h6.but k.l b, k.h7.tu t, k.h8.tu t, k.h9.but k.l b, k.h10.but k.l b, k.h11.but k.l b⟩
end
theorem neN {H : Hp} {a b : Addr} {o : HO} (h : H a = some o) (k : H b = none) : a ≠ b := fun z => by rw [z, k] at h; cases h
theorem OTm.get {H : Hp} {y : Option V} {t : Tm} (h : OTm H y (some t)) : ∃ v, y = some v ∧ TmAt H v t := by
  cases y with
  | none => exact h.elim
  | some v => exact ⟨v, rfl, h⟩
theorem OLs.get {p : Addr} {H : Hp} {y : Option V} {bs : Bds} (h : OLs p H y (some bs)) : ∃ (l : Addr) (xs : List V), y = some (.ref l) ∧ H l = some (.lst xs) ∧ BodsAt H xs bs ∧ l ≠ p := by
  cases y with
  | none => exact h.elim
  | some v =>
    obtain ⟨l, xs, rfl, h2⟩ := h
    exact ⟨l, xs, rfl, h2⟩
theorem OPr.get {p : Addr} {H : Hp} {y : Option V} {ts : List Tm} (h : OPr p H y (some ts)) : ∃ (l : Addr) (xs : List V), y = some (.ref l) ∧ H l = some (.lst xs) ∧ TmsAt H xs ts ∧ l ≠ p := by
  cases y with
  | none => exact h.elim
  | some v =>
    obtain ⟨l, xs, rfl, h2⟩ := h
    exact ⟨l, xs, rfl, h2⟩
section
variable {H0 : Hp} {p : Addr} {H : Hp} {ws : List V} {cs : List (Bds × Str)} {y0 y1 y2 y3 y5 y6 y7 y8 y9 y10 y11 : Option V} {o0 o1 o2 o3 : Option Tm} {o5 o6 : Option Bds} {o7 o8 : Option Tm} {o9 : Option (List Tm)} {o10 o11 : Option Bds}
theorem KE.put {H2 : Hp} {l q1 : Addr} {xs : List V} {bs : Bds} {s : Str} (k : KE H0 p H ws cs y0 y1 y2 y3 y5 y6 y7 y8 y9 y10 y11 o0 o1 o2 o3 o5 o6 o7 o8 o9 o10 o11) (e : Ex H H2) (hl : H2 l = some (.lst xs)) (g : BodsAt H2 xs bs) (lp : l ≠ p) (hq : H2 q1 = none) :
    (upd H2 q1 (.tup [.ref l, .str s])) p = some (.lst ws) ∧ ws.length = cs.length ∧ KE H0 p (upd (upd H2 q1 (.tup [.ref l, .str s])) p (.lst (ws ++ [.ref q1]))) (ws ++ [.ref q1]) (cs ++ [(bs, s)]) y0 y1 y2 y3 y5 y6 y7 y8 y9 y10 y11 o0 o1 o2 o3 o5 o6 o7 o8 o9 o10 o11 := by
  have f := Ex.new (o := .tup [.ref l, .str s]) hq
  exact ⟨(e.trans f) _ _ k.l, k.c.len, (k.up (e.trans f)).add ⟨q1, l, xs, rfl, upd_same, f _ _ hl, g.ex f, lp⟩⟩
end
theorem BodsAt.take {H : Hp} : ∀ {vs : List V} {xs : Bds} (n : Nat), BodsAt H vs xs → BodsAt H (vs.take n) (xs.take n)
  | _, _, 0, _ => .nil
  | _, _, n + 1, .nil => .nil
  | _, _, n + 1, .cons h hs => .cons h (hs.take n)
theorem cut_take (xs : List V) (n : Nat) : cutV xs none (some (n : Int)) = xs.take n := by
  unfold cutV
  rw [HT.sIx_none, HT.sIx_nat, List.drop_zero, Nat.sub_zero]
  exact (List.take_eq_take_iff).mpr (by omega)
/-! ### lists of bodies that are built -/
def BodR (x : Nat × Tm) : Hp → V → Prop := fun H v => BodAt H v x
def BodsR (xs : Bds) : Hp → List V → Prop := fun H vs => BodsAt H vs xs
/-- a new list -/
def LsR (H0 : Hp) (bs : Bds) : Hp → V → Prop := fun H v => ∃ (l : Addr) (xs : List V), v = .ref l ∧ H0 l = none ∧ H l = some (.lst xs) ∧ BodsAt H xs bs
theorem BodAt.ex9 {H H' : Hp} {v : V} {x : Nat × Tm} (h : BodAt H v x) (e : Ex H H') : BodAt H' v x := h.tu (Tu.of e)
section
variable {σ : L2.St} {H : Hp} {te tb : TE} {ta : TA}
theorem ya_bnil : Ya tNil σ H (BodsR []) := fun H1 e Q q => q H1 [] (Ex.refl H1) .nil
theorem ya_b {x : Nat × Tm} {xs : Bds} (h : Yl te σ H (BodR x)) (hs : Ya ta σ H (BodsR xs)) : Ya (tCons te ta) σ H (BodsR (x :: xs)) := fun H1 e Q q =>
  h H1 e _ fun H2 v e2 r => hs H2 (e.trans e2) _ fun H3 vs e3 rs => q H3 _ (e2.trans e3) (.cons (BodAt.ex9 r e3) rs)
theorem yl_bod {c : Nat} {t : Tm} (h : Yl te σ H (TmR t)) : Yl (tTup (tCons (tC (.int (c : Int))) (tCons te tNil))) σ H (BodR (c, t)) := fun H1 e Q q =>
  h H1 e _ fun H2 v e2 r => ⟨sz 2, fun p hp => q _ _ (e2.trans (Ex.new hp)) ⟨p, v, rfl, upd_same, TmAt.ex r (Ex.new hp)⟩⟩
theorem yl_ls {bs : Bds} (h : Ya ta σ H (BodsR bs)) (k : bs.length ≤ 100 := by decide) : Yl (tLst ta) σ H (LsR H bs) := fun H1 e Q q =>
  h H1 e _ fun H2 vs e2 r => ⟨Nat.le_trans (show vs.length ≤ 100 by rw [BodsAt.len r]; exact k) (by decide), fun p hp => q _ _ (e2.trans (Ex.new hp)) ⟨p, vs, rfl, fresh_back (e.trans e2) hp, upd_same, BodsAt.ex (Ex.new hp) r⟩⟩
/-- the ring call of a variable's place -/
theorem yl_ringv {j : Nat} {tj : TE} (h0 : Yl tj σ H (IsV (.int (j : Int)))) : Yl (tTup (tCons (tC (.str "ring")) (tCons tj (tCons (tTup tNil) tNil)))) σ H (TmR (.node (.ring j) [])) := fun H1 e Q q =>
  h0 H1 e _ fun H2 v e2 r => ⟨sz 0, fun p hp => ⟨sz 3, fun p2 hp2 => by
    have f1 := Ex.new (o := .tup []) hp
    cases (show v = .int (j : Int) from r)
    have f2 := Ex.new (o := .tup [.str "ring", .int (j : Int), .ref p]) hp2
    exact q _ _ (e2.trans (f1.trans f2)) (.ring upd_same (f2 p _ upd_same) .nil)⟩⟩
end
theorem wipe_set {σ : L2.St} {s : Nat} {v : Option V} : wipe ((wipe σ [s]).set s v) [s] = wipe σ [s] := by
  show ((σ.set s none).set s v).set s none = σ.set s none
  rw [List.set_set, List.set_set]
/-- [(..) for k in range(n)] -/
theorem yl_rng {σ : L2.St} {H : Hp} {te : TE} {s n : Nat} {f : Nat → Nat × Tm} (hn : n ≤ 100) (hs : s < σ.length) (h : ∀ (i : Nat) (σ' : L2.St) (H' : Hp), i < n → Ex H H' → σ'[s]? = some (some (.int (0 + (i : Int)))) → Yl te σ' H' (BodR (f i))) :
    Yl (tLc (iRng1 (tCons (tC (.int (n : Int))) tNil)) (gName s) tYes te [s]) σ H (LsR H ((List.range n).map f)) := fun H1 e Q q => by
  refine ⟨(n : Int), rfl, by omega, by omega, fun Dl hD => ?_⟩
  refine lc_range (lo := 0) (n := n) (fun i H3 => Ex H1 H3 ∧ ∃ vs, H3 Dl = some (.lst vs) ∧ BodsAt H3 vs ((List.range i).map f)) ⟨Ex.new hD, [], upd_same, .nil⟩ ?_ ?_
  · rintro i H3 hi ⟨e3, vs, h3, g3⟩
    refine ⟨wipe_set, yes ?_⟩
    refine h i _ H3 hi (e.trans e3) (by rw [List.getElem?_set, wipe_length, if_pos rfl, if_pos hs]) H3 (Ex.refl H3) _ fun H4 v e4 r4 => ?_
    have h4 := e4 _ _ h3
    have tu : Tu H4 (upd H4 Dl (.lst (vs ++ [v]))) := (But.upd (But.refl Dl H4)).tu h4
    have lv := g3.len
    rw [List.length_map, List.length_range] at lv
    refine ⟨vs, h4, small1000 (by omega), Ex.mut (e3.trans e4) hD, vs ++ [v], upd_same, ?_⟩
    rw [List.range_succ, List.map_append]
    exact ((g3.ex e4).tu tu).app (.cons (BodAt.tu r4 tu) .nil)
  · rintro H3 ⟨e3, vs, h3, g3⟩
    exact q H3 _ e3 ⟨Dl, vs, rfl, fresh_back e hD, h3, g3⟩
theorem yl_mod {σ : L2.St} {H : Hp} {s m i : Nat} (hm : 0 < m) (hs : σ[s]? = some (some (.int (0 + (i : Int))))) : Yl (tOp (rI (fun _ j => 0 < j) fun i j => .int (i % j)) (tVar s) (tC (.int (m : Int)))) σ H (IsV (.int ((i % m : Nat) : Int))) := fun H1 e Q q =>
  ⟨_, hs, _, _, rfl, rfl, by show (0 : Int) < (m : Int); omega, q H1 _ (Ex.refl H1) (by show V.int ((0 + (i : Int)) % (m : Int)) = _; rw [Int.zero_add, Int.natCast_emod])⟩
theorem yl_mod1 {σ : L2.St} {H : Hp} {s m i : Nat} (hm : 0 < m) (hs : σ[s]? = some (some (.int (0 + (i : Int))))) : Yl (tOp (rI (fun _ j => 0 < j) fun i j => .int (i % j)) (tOp (rI0 fun i j => .int (i + j)) (tVar s) (tC (.int 1))) (tC (.int (m : Int)))) σ H (IsV (.int (((i + 1) % m : Nat) : Int))) := fun H1 e Q q =>
  ⟨_, hs, _, _, rfl, rfl, _, _, rfl, rfl, by show (0 : Int) < (m : Int); omega, q H1 _ (Ex.refl H1) (by show V.int ((0 + (i : Int) + 1) % (m : Int)) = _; rw [Int.zero_add, Int.natCast_emod]; rfl)⟩
theorem yl_ixp {K : PySem.W.Frag} {σ : L2.St} {H : Hp} {l : Addr} {xs : List V} {ts : List Tm} {s i : Nat} {t : Tm} (hs : σ[s]? = some (some (.ref l))) (hl : H l = some (.lst xs)) (g : TmsAt H xs ts) (ht : ts[i]? = some t) :
    Yl (tOp (rIxL K) (tVar s) (tC (.int (i : Int)))) σ H (TmR t) := fun H1 e Q q => by
  obtain ⟨v, hv⟩ : ∃ v, xs[i]? = some v := ⟨_, List.getElem?_eq_getElem (by rw [g.length]; exact (List.getElem?_eq_some_iff.mp ht).1)⟩
  obtain ⟨u, hu, gu⟩ := g.get hv
  rw [ht] at hu
  cases hu
  exact ⟨_, hs, l, xs, (i : Int), v, rfl, rfl, SqL.of (e _ _ hl), atI_nat hv, q H1 v (Ex.refl H1) (gu.ex e)⟩
/-- the known ones -/
def known9 : List (Bds × Str) := [([(1, kEven), (1, kOdd)], "ab"), ([1, 0, 2].map (stepB 1), "aaa"), (kSix 2, "ababab"), (kSix 3, "abcabc"), ((kSix 2).take 5 ++ [stepB 2 0], "abcdef"),
  ([(0, .node (.call "00000a") []), (0, .node (.call "00000b") []), (0, .node (.call "00000a") [])], "aba"), ([(1, kDeep 4), (1, kDeep 5), (2, kDeep 4), (1, kDeep 4)], "abca"), (kTwo, "abcd"), (kTwo.take 3 ++ [(0, .num 1)], "aabb"),
  (kTwelve, "aaaaaaaaaaaa"), (kTwelve.take 11 ++ [stepB 2 0], "abcdefghijkl")]
def spKnown9 : Sp := fun vs H Q _ => vs = [] ∧ ∀ (H' : Hp) (p : Addr) (ws : List V), Ex H H' → H p = none → H' p = some (.lst ws) → CasesAt p H' ws known9 → Q (.ref p) H'
/-- what is written of who says the same -/
def lettersOf (l : List Nat) : Str := ⟨(l.map (· + 97)).toArray⟩
mutual
def okB : Tm → Bool
  | .num n => decide (n ≤ 1000002)
  | .arg k => decide (k ≤ 3)
  | .node h ts => (match h with
    | .op o => decide (ts.length = o.ar)
    | .call m => decide (m.length = 6) && m.cps.toList.all (fun c => (decide (48 ≤ c) && decide (c ≤ 57)) || (decide (97 ≤ c) && decide (c ≤ 122))) && decide (ts.length ≤ 4)
    | .ring p => decide (p ≤ 11) && decide (ts.length ≤ 4)) && okBs ts
def okBs : List Tm → Bool
  | [] => true
  | t :: ts => okB t && okBs ts
end
theorem okB_ok : ∀ t : Tm, okB t = true → t.Ok 11 := by
  intro t
  induction t using Tm.ind with
  | h1 k => exact fun h => .num (of_decide_eq_true h)
  | h2 k => exact fun h => .arg (of_decide_eq_true h)
  | h3 h ts ih =>
    intro hb
    have all : ∀ us : List Tm, (∀ u ∈ us, u ∈ ts) → okBs us = true → ∀ u ∈ us, u.Ok 11 := by
      intro us
      induction us with
      | nil => exact fun _ _ u hu => by cases hu
      | cons v us ih2 =>
        intro hm hk u hu
        have hk2 : (okB v && okBs us) = true := hk
        rw [Bool.and_eq_true] at hk2
        rcases List.mem_cons.mp hu with rfl | hu
        · exact ih u (hm u (List.mem_cons_self ..)) hk2.1
        · exact ih2 (fun u hu => hm u (List.mem_cons_of_mem _ hu)) hk2.2 u hu
    cases h with
    | op o =>
      have h2 : (decide (ts.length = o.ar) && okBs ts) = true := hb
      rw [Bool.and_eq_true] at h2
      have h3 : ts.length = o.ar := of_decide_eq_true h2.1
      exact .node h3 (all ts (fun _ z => z) h2.2)
    | call m =>
      have h2 : ((decide (m.length = 6) && m.cps.toList.all (fun c => (decide (48 ≤ c) && decide (c ≤ 57)) || (decide (97 ≤ c) && decide (c ≤ 122))) && decide (ts.length ≤ 4)) && okBs ts) = true := hb
      rw [Bool.and_eq_true, Bool.and_eq_true, Bool.and_eq_true] at h2
      refine .node ⟨⟨of_decide_eq_true h2.1.1.1, fun c hc => ?_⟩, of_decide_eq_true h2.1.2⟩ (all ts (fun _ z => z) h2.2)
      have := List.all_eq_true.mp h2.1.1.2 c hc
      simpa using this
    | ring p =>
      have h2 : ((decide (p ≤ 11) && decide (ts.length ≤ 4)) && okBs ts) = true := hb
      rw [Bool.and_eq_true, Bool.and_eq_true] at h2
      exact .node ⟨of_decide_eq_true h2.1.1, of_decide_eq_true h2.1.2⟩ (all ts (fun _ z => z) h2.2)
theorem known9_all : ∀ c ∈ known9, ∀ x ∈ c.1, okB x.2 = true ∧ x.2.deep ≤ 8 ∧ x.2.size ≤ 1000 ∧ ∀ p ∈ x.2.places, p < c.1.length := by decide +kernel
theorem known9_ok : ∀ c ∈ known9, c.1.length ≤ 12 ∧ c.2 = lettersOf (sayIt c.1 c.1.length) := by decide +kernel
end V


set_option Elab.async false
set_option linter.all false
set_option maxRecDepth 100000
set_option maxHeartbeats 4000000
namespace V
open PySem PySem.Spec PyProof.Rows L2
/-! ### the text -/
def topS (i : Nat) : Stmt := PySem.Challenge.pw_contentnames_k09_known_sayings.main.body.getD i (.Pass ⟨0, 0, 0, 0⟩)
abbrev s_parts_of : Stmt := topS 3
abbrev s_terms_of : Stmt := topS 4
abbrev s_places_of : Stmt := topS 5
abbrev s_with_heads : Stmt := topS 6
abbrev s_leads_of : Stmt := topS 8
abbrev s_with_all_heads : Stmt := topS 9
abbrev s_saying : Stmt := topS 11
abbrev s_shapes_of : Stmt := topS 12
abbrev s_parted_by_leads : Stmt := topS 13
abbrev s_numbers_of : Stmt := topS 14
abbrev s__law_box : Stmt := topS 16
abbrev s__law_take : Stmt := topS 17
abbrev s__law_folded : Stmt := topS 18
abbrev s__law_placed : Stmt := topS 19
abbrev s__law_spots : Stmt := topS 20
abbrev s__law_known : Stmt := topS 21
abbrev s__law_order : Stmt := topS 22
abbrev s__law_right : Stmt := topS 23
abbrev s_law : Stmt := topS 24
abbrev N_parts_of : List Str := ["term"]
theorem sc_parts_of : FnScope N_parts_of ["term"] (defScope s_parts_of) := ⟨rfl, rfl, rfl, by decide +kernel, rfl, by decide +kernel, by decide +kernel⟩
abbrev N_terms_of : List Str := ["term", "terms", "part"]
theorem sc_terms_of : FnScope N_terms_of ["term"] (defScope s_terms_of) := ⟨rfl, rfl, rfl, by decide +kernel, rfl, by decide +kernel, by decide +kernel⟩
abbrev N_places_of : List Str := ["term", "inner"]
theorem sc_places_of : FnScope N_places_of ["term"] (defScope s_places_of) := ⟨rfl, rfl, rfl, by decide +kernel, rfl, by decide +kernel, by decide +kernel⟩
abbrev N_with_heads : List Str := ["term", "heads", "parts", "word", "called", "part"]
theorem sc_with_heads : FnScope N_with_heads ["term", "heads"] (defScope s_with_heads) := ⟨rfl, rfl, rfl, by decide +kernel, rfl, by decide +kernel, by decide +kernel⟩
abbrev N_leads_of : List Str := ["bodies", "_", "term"]
theorem sc_leads_of : FnScope N_leads_of ["bodies"] (defScope s_leads_of) := ⟨rfl, rfl, rfl, by decide +kernel, rfl, by decide +kernel, by decide +kernel⟩
abbrev N_with_all_heads : List Str := ["bodies", "heads", "many", "term"]
theorem sc_with_all_heads : FnScope N_with_all_heads ["bodies", "heads"] (defScope s_with_all_heads) := ⟨rfl, rfl, rfl, by decide +kernel, rfl, by decide +kernel, by decide +kernel⟩
abbrev N_saying : List Str := ["bodies", "leads", "groups", "parted"]
theorem sc_saying : FnScope N_saying ["bodies"] (defScope s_saying) := ⟨rfl, rfl, rfl, by decide +kernel, rfl, by decide +kernel, by decide +kernel⟩
abbrev N_shapes_of : List Str := ["bodies", "heads", "place"]
theorem sc_shapes_of : FnScope N_shapes_of ["bodies"] (defScope s_shapes_of) := ⟨rfl, rfl, rfl, by decide +kernel, rfl, by decide +kernel, by decide +kernel⟩
abbrev N_parted_by_leads : List Str := ["groups", "leads", "group", "named", "place"]
theorem sc_parted_by_leads : FnScope N_parted_by_leads ["groups", "leads"] (defScope s_parted_by_leads) := ⟨rfl, rfl, rfl, by decide +kernel, rfl, by decide +kernel, by decide +kernel⟩
abbrev N_numbers_of : List Str := ["things", "met", "thing"]
theorem sc_numbers_of : FnScope N_numbers_of ["things"] (defScope s_numbers_of) := ⟨rfl, rfl, rfl, by decide +kernel, rfl, by decide +kernel, by decide +kernel⟩
abbrev N__law_box : List Str := ["script", "k", "cell"]
theorem sc__law_box : FnScope N__law_box ["script", "k"] (defScope s__law_box) := ⟨rfl, rfl, rfl, by decide +kernel, rfl, by decide +kernel, by decide +kernel⟩
abbrev N__law_take : List Str := ["box", "size", "found", "step", "once", "twice"]
theorem sc__law_take : FnScope N__law_take ["box", "size"] (defScope s__law_take) := ⟨rfl, rfl, rfl, by decide +kernel, rfl, by decide +kernel, by decide +kernel⟩
abbrev N__law_folded : List Str := ["script", "size", "cells", "k", "cell"]
theorem sc__law_folded : FnScope N__law_folded ["script", "size"] (defScope s__law_folded) := ⟨rfl, rfl, rfl, by decide +kernel, rfl, by decide +kernel, by decide +kernel⟩
abbrev N__law_placed : List Str := ["term", "places", "place", "one"]
theorem sc__law_placed : FnScope N__law_placed ["term", "places"] (defScope s__law_placed) := ⟨rfl, rfl, rfl, by decide +kernel, rfl, by decide +kernel, by decide +kernel⟩
abbrev N__law_spots : List Str := ["term", "found", "parts", "one"]
theorem sc__law_spots : FnScope N__law_spots ["term"] (defScope s__law_spots) := ⟨rfl, rfl, rfl, by decide +kernel, rfl, by decide +kernel, by decide +kernel⟩
abbrev N__law_known : List Str := ["up", "step", "even", "odd", "found", "one", "six", "deep", "other", "pair", "two", "twelve", "place", "k"]
theorem sc__law_known : FnScope N__law_known [] (defScope s__law_known) := ⟨rfl, rfl, rfl, by decide +kernel, rfl, by decide +kernel, by decide +kernel⟩
abbrev N__law_order : List Str := ["box", "size", "left", "found", "turn"]
theorem sc__law_order : FnScope N__law_order ["box", "size"] (defScope s__law_order) := ⟨rfl, rfl, rfl, by decide +kernel, rfl, by decide +kernel, by decide +kernel⟩
abbrev N__law_right : List Str := ["box", "bodies", "letters", "order", "moved", "names", "old", "count", "term", "found", "spot", "number", "letter", "at"]
theorem sc__law_right : FnScope N__law_right ["box"] (defScope s__law_right) := ⟨rfl, rfl, rfl, by decide +kernel, rfl, by decide +kernel, by decide +kernel⟩
abbrev N_law : List Str := ["script", "cells", "k"]
theorem sc_law : FnScope N_law ["script"] (defScope s_law) := ⟨rfl, rfl, rfl, by decide +kernel, rfl, by decide +kernel, by decide +kernel⟩
/-! ### the head -/
def d_parts_of : He.DefD := ⟨("parts_of", none), "parts_of", "parts_of", defArgs s_parts_of, defBody s_parts_of, defScope s_parts_of, [], []⟩
def d_terms_of : He.DefD := ⟨("terms_of", none), "terms_of", "terms_of", defArgs s_terms_of, defBody s_terms_of, defScope s_terms_of, [], []⟩
def d_places_of : He.DefD := ⟨("places_of", none), "places_of", "places_of", defArgs s_places_of, defBody s_places_of, defScope s_places_of, [], []⟩
def d_with_heads : He.DefD := ⟨("with_heads", none), "with_heads", "with_heads", defArgs s_with_heads, defBody s_with_heads, defScope s_with_heads, [], []⟩
def d_leads_of : He.DefD := ⟨("leads_of", none), "leads_of", "leads_of", defArgs s_leads_of, defBody s_leads_of, defScope s_leads_of, [], []⟩
def d_with_all_heads : He.DefD := ⟨("with_all_heads", none), "with_all_heads", "with_all_heads", defArgs s_with_all_heads, defBody s_with_all_heads, defScope s_with_all_heads, [], []⟩
def d_saying : He.DefD := ⟨("saying", none), "saying", "saying", defArgs s_saying, defBody s_saying, defScope s_saying, [], []⟩
def d_shapes_of : He.DefD := ⟨("shapes_of", none), "shapes_of", "shapes_of", defArgs s_shapes_of, defBody s_shapes_of, defScope s_shapes_of, [], []⟩
def d_parted_by_leads : He.DefD := ⟨("parted_by_leads", none), "parted_by_leads", "parted_by_leads", defArgs s_parted_by_leads, defBody s_parted_by_leads, defScope s_parted_by_leads, [], []⟩
def d_numbers_of : He.DefD := ⟨("numbers_of", none), "numbers_of", "numbers_of", defArgs s_numbers_of, defBody s_numbers_of, defScope s_numbers_of, [], []⟩
def d__law_box : He.DefD := ⟨("_law_box", none), "_law_box", "_law_box", defArgs s__law_box, defBody s__law_box, defScope s__law_box, [], []⟩
def d__law_take : He.DefD := ⟨("_law_take", none), "_law_take", "_law_take", defArgs s__law_take, defBody s__law_take, defScope s__law_take, [], []⟩
def d__law_folded : He.DefD := ⟨("_law_folded", none), "_law_folded", "_law_folded", defArgs s__law_folded, defBody s__law_folded, defScope s__law_folded, [], []⟩
def d__law_placed : He.DefD := ⟨("_law_placed", none), "_law_placed", "_law_placed", defArgs s__law_placed, defBody s__law_placed, defScope s__law_placed, [], []⟩
def d__law_spots : He.DefD := ⟨("_law_spots", none), "_law_spots", "_law_spots", defArgs s__law_spots, defBody s__law_spots, defScope s__law_spots, [], []⟩
def d__law_known : He.DefD := ⟨("_law_known", none), "_law_known", "_law_known", defArgs s__law_known, defBody s__law_known, defScope s__law_known, [], []⟩
def d__law_order : He.DefD := ⟨("_law_order", none), "_law_order", "_law_order", defArgs s__law_order, defBody s__law_order, defScope s__law_order, [], []⟩
def d__law_right : He.DefD := ⟨("_law_right", none), "_law_right", "_law_right", defArgs s__law_right, defBody s__law_right, defScope s__law_right, [], []⟩
def d_law : He.DefD := ⟨("law", none), "law", "law", defArgs s_law, defBody s_law, defScope s_law, [], []⟩
def fn : List He.DefD := ([d_parts_of, d_terms_of, d_places_of, d_with_heads, d_leads_of, d_with_all_heads, d_saying, d_shapes_of, d_parted_by_leads, d_numbers_of, d__law_box, d__law_take, d__law_folded, d__law_placed, d__law_spots, d__law_known, d__law_order, d__law_right, d_law] : List He.DefD)
def fa : List He.Fa := ([.glo "parts_of", .glo "terms_of", .glo "places_of", .glo "with_heads", .glo "leads_of", .glo "with_all_heads", .glo "saying", .glo "shapes_of", .glo "parted_by_leads", .glo "numbers_of", .glo "_law_box", .glo "_law_take", .glo "_law_folded", .glo "_law_placed", .glo "_law_spots", .glo "_law_known", .glo "_law_order", .glo "_law_right", .glo "law", .free "tuple"] : List He.Fa) ++ ([.free "range", .free "len", .free "zip", .free "abs", .free "int", .free "divmod", .free "list", .free "enumerate", .free "all", .free "max", .glo "OPERATIONS", .glo "CALLS"] : List He.Fa)
def tabs : List He.Tab := [(fun K => He.ga K "OPERATIONS", ["add", "less", "times", "under", "if"])]
def ex (K : PySem.W.Frag) : Bool := He.valsB K (He.ga K "OPERATIONS") [("add", .int 2), ("less", .int 2), ("times", .int 2), ("under", .int 2), ("if", .int 3)] && He.tupB K "CALLS" [.str "call", .str "ring", .str "name"] && tupN K "CALLS"
abbrev R : PySem.W.OpenRow := PySem.W.OpenLaw.row PySem.Challenge.rw_contentnames_k09_known_sayings
abbrev hk : PySem.W.Hook := He.hookX 6 fa fn tabs [] ex
def ob (s : PySem.W.SharedT) : He.AlX := He.obsX 6 fa fn tabs [] ex (HandSHeadRun.getT s)
theorem ob_eq (s : PySem.W.SharedT) : ob s = hk.obs s.abs := He.obsX_eq (HandSHeadRun.getT_eq s)
def loose : List Str := (["OPERATIONS", "CALLS", "parts_of", "terms_of", "places_of", "with_heads", "leads_of", "with_all_heads", "saying", "shapes_of", "parted_by_leads", "numbers_of", "_law_box", "_law_take", "_law_folded", "_law_placed", "_law_spots", "_law_known", "_law_order", "_law_right"] : List Str)
set_option maxHeartbeats 0 in
theorem run (w : World) : HandSHeadRun.RunEq R (PySem.W.view R.prog [24]) hk ob 6000 loose w :=
  PySem.W.byRow2 "special-get-raises" (P := fun w => HandSHeadRun.RunEq R (PySem.W.view R.prog [24]) hk ob 6000 loose w) (fun w os => by kernel_rfl) (fun w os => by kernel_rfl) w
/-! ### what the top has left, by names -/
structure Txt (K : PySem.W.Frag) (w : World) (mg : Str → Option Value) : Prop where
  D_parts_of : Def K mg "parts_of" s_parts_of ["term"]
  D_terms_of : Def K mg "terms_of" s_terms_of ["term"]
  D_places_of : Def K mg "places_of" s_places_of ["term"]
  D_with_heads : Def K mg "with_heads" s_with_heads ["term", "heads"]
  D_leads_of : Def K mg "leads_of" s_leads_of ["bodies"]
  D_with_all_heads : Def K mg "with_all_heads" s_with_all_heads ["bodies", "heads"]
  D_saying : Def K mg "saying" s_saying ["bodies"]
  D_shapes_of : Def K mg "shapes_of" s_shapes_of ["bodies"]
  D_parted_by_leads : Def K mg "parted_by_leads" s_parted_by_leads ["groups", "leads"]
  D_numbers_of : Def K mg "numbers_of" s_numbers_of ["things"]
  D__law_box : Def K mg "_law_box" s__law_box ["script", "k"]
  D__law_take : Def K mg "_law_take" s__law_take ["box", "size"]
  D__law_folded : Def K mg "_law_folded" s__law_folded ["script", "size"]
  D__law_placed : Def K mg "_law_placed" s__law_placed ["term", "places"]
  D__law_spots : Def K mg "_law_spots" s__law_spots ["term"]
  D__law_known : Def K mg "_law_known" s__law_known []
  D__law_order : Def K mg "_law_order" s__law_order ["box", "size"]
  D__law_right : Def K mg "_law_right" s__law_right ["box"]
  D_law : Def K mg "law" s_law ["script"]
  z_tuple : mg "tuple" = none
  z_range : mg "range" = none
  z_len : mg "len" = none
  z_zip : mg "zip" = none
  z_abs : mg "abs" = none
  z_int : mg "int" = none
  z_divmod : mg "divmod" = none
  z_list : mg "list" = none
  z_enumerate : mg "enumerate" = none
  z_all : mg "all" = none
  z_max : mg "max" = none
  O : Ops K w mg
  g_CALLS : ∃ a, mg "CALLS" = some (.ref a) ∧ ∀ H, SqT K H a [.str "call", .str "ring", .str "name"]
  y_CALLS : ∃ a, mg "CALLS" = some (.ref a) ∧ ∃ o, K.lookup a = some o ∧ o.cls = .type "tuple" ∧ o.dict = none
theorem txt_of {K : PySem.W.Frag} {w : World} {mg : Str → Option Value} {h h0 : Heap} (X : K.In h) (G : h.Ns mainGlobals mg) (c : He.SaysX fa fn tabs [] ex w h0 K) : Txt K w mg := by
  have m : ex K = true := c.more
  unfold ex at m
  simp only [Bool.and_eq_true] at m
  obtain ⟨⟨x0, x1⟩, x2⟩ := m
  exact {
    D_parts_of := by
      obtain ⟨fd, F⟩ := c.t.d.def_ 0 (d := d_parts_of) rfl
      exact ⟨_, fd, F, He.glo_ok X G (c.t.d.fact 0 (f := .glo "parts_of") rfl), F.bindsN fun _ _ _ _ _ _ us hl => match us, hl with | [_], _ => rfl⟩
    D_terms_of := by
      obtain ⟨fd, F⟩ := c.t.d.def_ 1 (d := d_terms_of) rfl
      exact ⟨_, fd, F, He.glo_ok X G (c.t.d.fact 1 (f := .glo "terms_of") rfl), F.bindsN fun _ _ _ _ _ _ us hl => match us, hl with | [_], _ => rfl⟩
    D_places_of := by
      obtain ⟨fd, F⟩ := c.t.d.def_ 2 (d := d_places_of) rfl
      exact ⟨_, fd, F, He.glo_ok X G (c.t.d.fact 2 (f := .glo "places_of") rfl), F.bindsN fun _ _ _ _ _ _ us hl => match us, hl with | [_], _ => rfl⟩
    D_with_heads := by
      obtain ⟨fd, F⟩ := c.t.d.def_ 3 (d := d_with_heads) rfl
      exact ⟨_, fd, F, He.glo_ok X G (c.t.d.fact 3 (f := .glo "with_heads") rfl), F.bindsN fun _ _ _ _ _ _ us hl => match us, hl with | [_, _], _ => rfl⟩
    D_leads_of := by
      obtain ⟨fd, F⟩ := c.t.d.def_ 4 (d := d_leads_of) rfl
      exact ⟨_, fd, F, He.glo_ok X G (c.t.d.fact 4 (f := .glo "leads_of") rfl), F.bindsN fun _ _ _ _ _ _ us hl => match us, hl with | [_], _ => rfl⟩
    D_with_all_heads := by
      obtain ⟨fd, F⟩ := c.t.d.def_ 5 (d := d_with_all_heads) rfl
      exact ⟨_, fd, F, He.glo_ok X G (c.t.d.fact 5 (f := .glo "with_all_heads") rfl), F.bindsN fun _ _ _ _ _ _ us hl => match us, hl with | [_, _], _ => rfl⟩
    D_saying := by
      obtain ⟨fd, F⟩ := c.t.d.def_ 6 (d := d_saying) rfl
      exact ⟨_, fd, F, He.glo_ok X G (c.t.d.fact 6 (f := .glo "saying") rfl), F.bindsN fun _ _ _ _ _ _ us hl => match us, hl with | [_], _ => rfl⟩
    D_shapes_of := by
      obtain ⟨fd, F⟩ := c.t.d.def_ 7 (d := d_shapes_of) rfl
      exact ⟨_, fd, F, He.glo_ok X G (c.t.d.fact 7 (f := .glo "shapes_of") rfl), F.bindsN fun _ _ _ _ _ _ us hl => match us, hl with | [_], _ => rfl⟩
    D_parted_by_leads := by
      obtain ⟨fd, F⟩ := c.t.d.def_ 8 (d := d_parted_by_leads) rfl
      exact ⟨_, fd, F, He.glo_ok X G (c.t.d.fact 8 (f := .glo "parted_by_leads") rfl), F.bindsN fun _ _ _ _ _ _ us hl => match us, hl with | [_, _], _ => rfl⟩
    D_numbers_of := by
      obtain ⟨fd, F⟩ := c.t.d.def_ 9 (d := d_numbers_of) rfl
      exact ⟨_, fd, F, He.glo_ok X G (c.t.d.fact 9 (f := .glo "numbers_of") rfl), F.bindsN fun _ _ _ _ _ _ us hl => match us, hl with | [_], _ => rfl⟩
    D__law_box := by
      obtain ⟨fd, F⟩ := c.t.d.def_ 10 (d := d__law_box) rfl
      exact ⟨_, fd, F, He.glo_ok X G (c.t.d.fact 10 (f := .glo "_law_box") rfl), F.bindsN fun _ _ _ _ _ _ us hl => match us, hl with | [_, _], _ => rfl⟩
    D__law_take := by
      obtain ⟨fd, F⟩ := c.t.d.def_ 11 (d := d__law_take) rfl
      exact ⟨_, fd, F, He.glo_ok X G (c.t.d.fact 11 (f := .glo "_law_take") rfl), F.bindsN fun _ _ _ _ _ _ us hl => match us, hl with | [_, _], _ => rfl⟩
    D__law_folded := by
      obtain ⟨fd, F⟩ := c.t.d.def_ 12 (d := d__law_folded) rfl
      exact ⟨_, fd, F, He.glo_ok X G (c.t.d.fact 12 (f := .glo "_law_folded") rfl), F.bindsN fun _ _ _ _ _ _ us hl => match us, hl with | [_, _], _ => rfl⟩
    D__law_placed := by
      obtain ⟨fd, F⟩ := c.t.d.def_ 13 (d := d__law_placed) rfl
      exact ⟨_, fd, F, He.glo_ok X G (c.t.d.fact 13 (f := .glo "_law_placed") rfl), F.bindsN fun _ _ _ _ _ _ us hl => match us, hl with | [_, _], _ => rfl⟩
    D__law_spots := by
      obtain ⟨fd, F⟩ := c.t.d.def_ 14 (d := d__law_spots) rfl
      exact ⟨_, fd, F, He.glo_ok X G (c.t.d.fact 14 (f := .glo "_law_spots") rfl), F.bindsN fun _ _ _ _ _ _ us hl => match us, hl with | [_], _ => rfl⟩
    D__law_known := by
      obtain ⟨fd, F⟩ := c.t.d.def_ 15 (d := d__law_known) rfl
      exact ⟨_, fd, F, He.glo_ok X G (c.t.d.fact 15 (f := .glo "_law_known") rfl), F.bindsN fun _ _ _ _ _ _ us hl => match us, hl with | [], _ => rfl⟩
    D__law_order := by
      obtain ⟨fd, F⟩ := c.t.d.def_ 16 (d := d__law_order) rfl
      exact ⟨_, fd, F, He.glo_ok X G (c.t.d.fact 16 (f := .glo "_law_order") rfl), F.bindsN fun _ _ _ _ _ _ us hl => match us, hl with | [_, _], _ => rfl⟩
    D__law_right := by
      obtain ⟨fd, F⟩ := c.t.d.def_ 17 (d := d__law_right) rfl
      exact ⟨_, fd, F, He.glo_ok X G (c.t.d.fact 17 (f := .glo "_law_right") rfl), F.bindsN fun _ _ _ _ _ _ us hl => match us, hl with | [_], _ => rfl⟩
    D_law := by
      obtain ⟨fd, F⟩ := c.t.d.def_ 18 (d := d_law) rfl
      exact ⟨_, fd, F, He.glo_ok X G (c.t.d.fact 18 (f := .glo "law") rfl), F.bindsN fun _ _ _ _ _ _ us hl => match us, hl with | [_], _ => rfl⟩
    z_tuple := He.free_ok X G (c.t.d.fact 19 (f := .free "tuple") rfl)
    z_range := He.free_ok X G (c.t.d.fact 20 (f := .free "range") rfl)
    z_len := He.free_ok X G (c.t.d.fact 21 (f := .free "len") rfl)
    z_zip := He.free_ok X G (c.t.d.fact 22 (f := .free "zip") rfl)
    z_abs := He.free_ok X G (c.t.d.fact 23 (f := .free "abs") rfl)
    z_int := He.free_ok X G (c.t.d.fact 24 (f := .free "int") rfl)
    z_divmod := He.free_ok X G (c.t.d.fact 25 (f := .free "divmod") rfl)
    z_list := He.free_ok X G (c.t.d.fact 26 (f := .free "list") rfl)
    z_enumerate := He.free_ok X G (c.t.d.fact 27 (f := .free "enumerate") rfl)
    z_all := He.free_ok X G (c.t.d.fact 28 (f := .free "all") rfl)
    z_max := He.free_ok X G (c.t.d.fact 29 (f := .free "max") rfl)
    O := by
      obtain ⟨es, n, KD⟩ := c.t.tab 0 (t := (fun K => He.ga K "OPERATIONS", opWords)) rfl
      have e1 : tabs.map (fun t => He.dicW K (t.1 K)) = tabs.map fun t => some (He.keysIn w.params t.2) := congrArg (fun z : He.AlT => z.2) c.t
      have e2 : He.dicW K (He.ga K "OPERATIONS") = some (He.keysIn w.params opWords) := congrArg (fun l => l.getD 0 none) e1
      refine ⟨_, es, n, He.glo_ok X G (c.t.d.fact 30 (f := .glo "OPERATIONS") rfl), KD, fun z => isSome_mem e2 z, fun o => ?_⟩
      cases o
      · exact He.valsB_ok x0 (q := ("add", .int 2)) (by simp)
      · exact He.valsB_ok x0 (q := ("less", .int 2)) (by simp)
      · exact He.valsB_ok x0 (q := ("times", .int 2)) (by simp)
      · exact He.valsB_ok x0 (q := ("under", .int 2)) (by simp)
      · exact He.valsB_ok x0 (q := ("if", .int 3)) (by simp)
    g_CALLS := ⟨_, He.glo_ok X G (c.t.d.fact 31 (f := .glo "CALLS") rfl), fun H => He.tupB_ok (vs := [.str "call", .str "ring", .str "name"]) x1 H⟩
    y_CALLS := ⟨_, He.glo_ok X G (c.t.d.fact 31 (f := .glo "CALLS") rfl), tupN_ok x2⟩
  }

end V


set_option Elab.async false
set_option linter.all false
set_option maxRecDepth 100000
set_option maxHeartbeats 4000000
namespace V
open PySem PySem.Spec PyProof.Rows L2 Evl TL NumText
def SK9 (H0 : Hp) (cs : List (Bds × Str)) (o0 o1 o2 o3 : Option Tm) (o5 o6 : Option Bds) (o7 o8 : Option Tm) (o9 : Option (List Tm)) (o10 o11 : Option Bds) : L2.St → Hp → Prop := fun σ H => ∃ (p : Addr) (ws : List V) (y0 y1 y2 y3 y5 y6 y7 y8 y9 y10 y11 : Option V),
  σ = [y0, y1, y2, y3, some (.ref p), y5, y6, y7, y8, y9, y10, y11, none, none] ∧ KE H0 p H ws cs y0 y1 y2 y3 y5 y6 y7 y8 y9 y10 y11 o0 o1 o2 o3 o5 o6 o7 o8 o9 o10 o11
theorem yl_go9 {te : TE} {σ : L2.St} {H : Hp} {R : Hp → V → Prop} {Q : VK} (h : Yl te σ H R) (k : ∀ H2 v, Ex H H2 → R H2 v → Q v H2) : te σ H Q := h H (Ex.refl H) Q k
theorem cons_go9 {A : TE} {B : TA} {σ : L2.St} {H : Hp} {Q : List V → Hp → Prop} (h : A σ H fun x H1 => B σ H1 fun xs H2 => Q (x :: xs) H2) : tCons A B σ H Q := h
theorem tup_go9 {A : TA} {σ : L2.St} {H : Hp} {Q : VK} (h : A σ H fun xs H1 => xs.length ≤ sizeLine ∧ ∀ p, H1 p = none → Q (.ref p) (upd H1 p (.tup xs))) : tTup A σ H Q := h
theorem lst_go9 {A : TA} {σ : L2.St} {H : Hp} {Q : VK} (h : A σ H fun xs H1 => xs.length ≤ sizeLine ∧ ∀ p, H1 p = none → Q (.ref p) (upd H1 p (.lst xs))) : tLst A σ H Q := h
theorem asg_go9 {te : TE} {g : TG} {D : Ends} {σ : L2.St} {H : Hp} (h : te σ H fun x H1 => g x σ H1 D.nx) : tAsg te g D σ H := h
section
variable {P : Program} {w : World} {K : PySem.W.Frag} {mg : Str → Option Value} {base : Heap}
set_option maxHeartbeats 8000000 in
theorem ok_known9 (T : Txt K w mg) : Cal P w K mg base 1 "_law_known" [] spKnown9 := by
  refine T.D__law_known.cal sc__law_known (fun vs H Q E h => ?_) (fun f cdv A outer s H vs Q E hr h => ?_)
  · obtain ⟨rfl, _⟩ := h
    rfl
  obtain ⟨rfl, q⟩ := h
  refine ⟨_, (pss_cons (ps_set (i := 0) sc__law_known.nd rfl (.inl rfl) (pe_tup (pa_cons pe_str (pa_cons pe_int pa_nil))))
  (pss_cons (ps_set (i := 1) sc__law_known.nd rfl (.inl rfl) (pe_tup (pa_cons pe_str (pa_cons (pv 0) (pa_cons (pe_tup (pa_cons pe_str (pa_cons pe_int pa_nil))) pa_nil)))))
  (pss_cons (ps_set (i := 2) sc__law_known.nd rfl (.inl rfl) (pe_tup (pa_cons pe_str (pa_cons (pv 0) (pa_cons (pe_tup (pa_cons pe_str (pa_cons pe_int (pa_cons (pe_tup (pa_cons (pv 1) pa_nil)) pa_nil)))) (pa_cons (pe_tup (pa_cons pe_str (pa_cons pe_int pa_nil))) pa_nil))))))
  (pss_cons (ps_set (i := 3) sc__law_known.nd rfl (.inl rfl) (pe_tup (pa_cons pe_str (pa_cons (pv 0) (pa_cons (pe_tup (pa_cons pe_str (pa_cons pe_int (pa_cons (pe_tup (pa_cons (pv 1) pa_nil)) pa_nil)))) (pa_cons (pe_tup (pa_cons pe_str (pa_cons pe_int pa_nil))) pa_nil))))))
  (pss_cons (ps_set (i := 4) sc__law_known.nd rfl (.inl rfl) (pe_lst (pa_cons (pe_tup (pa_cons (pe_lst (pa_cons (pe_tup (pa_cons pe_int (pa_cons (pv 2) pa_nil))) (pa_cons (pe_tup (pa_cons pe_int (pa_cons (pv 3) pa_nil))) pa_nil))) (pa_cons pe_str pa_nil))) pa_nil)))
  (pss_cons (ps_setLc (i := 5) (own := [("place", 12)]) (g := (gName 12)) (tt := tYes) rfl sc__law_known.nd rfl rfl (sw_true rfl rfl rfl rfl) (pi_tup (pe_tup (pa_cons pe_int (pa_cons pe_int (pa_cons pe_int pa_nil))))) (blkOk_by (N := N__law_known) (sc := defScope s__law_known) (by decide +kernel)) (fun _ _ _ _ _ => (pg_name (i := 12) sc__law_known.nd rfl (.inl rfl))) (fun _ _ _ _ _ => pts_nil) (fun _ _ _ _ _ => (pe_tup (pa_cons pe_int (pa_cons (pe_tup (pa_cons pe_str (pa_cons (pe_tup (pa_cons pe_str (pa_cons pe_int pa_nil))) (pa_cons (pe_tup (pa_cons pe_str (pa_cons (pv 12) (pa_cons (pe_tup pa_nil) pa_nil)))) pa_nil)))) pa_nil)))))
  (pss_cons (ps_expr (pe_bm PySem.F.plainAttrs_list PySem.F.slot_list_append PySem.F.type_list_append mt_append (pv 4) (pa_cons (pe_tup (pa_cons (pv 5) (pa_cons pe_str pa_nil))) pa_nil)))
  (pss_cons (ps_setLc (i := 6) (own := [("k", 13)]) (g := (gName 13)) (tt := tYes) rfl sc__law_known.nd rfl rfl (sw_true rfl rfl rfl rfl) (pi_range1 rfl T.z_range (pa_cons pe_int pa_nil)) (blkOk_by (N := N__law_known) (sc := defScope s__law_known) (by decide +kernel)) (fun _ _ _ _ _ => (pg_name (i := 13) sc__law_known.nd rfl (.inl rfl))) (fun _ _ _ _ _ => pts_nil) (fun _ _ _ _ _ => (pe_tup (pa_cons pe_int (pa_cons (pe_tup (pa_cons pe_str (pa_cons (pe_tup (pa_cons pe_str (pa_cons (pe_op op_mod (pv 13) pe_int) pa_nil))) (pa_cons (pe_tup (pa_cons pe_str (pa_cons (pe_op op_mod (pe_op op_add (pv 13) pe_int) pe_int) (pa_cons (pe_tup pa_nil) pa_nil)))) pa_nil)))) pa_nil)))))
  (pss_cons (ps_expr (pe_bm PySem.F.plainAttrs_list PySem.F.slot_list_append PySem.F.type_list_append mt_append (pv 4) (pa_cons (pe_tup (pa_cons (pv 6) (pa_cons pe_str pa_nil))) pa_nil)))
  (pss_cons (ps_expr (pe_bm PySem.F.plainAttrs_list PySem.F.slot_list_append PySem.F.type_list_append mt_append (pv 4) (pa_cons (pe_tup (pa_cons (pe_lc (own := [("k", 13)]) (g := (gName 13)) (tt := tYes) rfl sc__law_known.nd (pi_range1 rfl T.z_range (pa_cons pe_int pa_nil)) (blkOk_by (N := N__law_known) (sc := defScope s__law_known) (by decide +kernel)) (fun _ _ _ _ _ => (pg_name (i := 13) sc__law_known.nd rfl (.inl rfl))) (fun _ _ _ _ _ => pts_nil) (fun _ _ _ _ _ => (pe_tup (pa_cons pe_int (pa_cons (pe_tup (pa_cons pe_str (pa_cons (pe_tup (pa_cons pe_str (pa_cons (pe_op op_mod (pv 13) pe_int) pa_nil))) (pa_cons (pe_tup (pa_cons pe_str (pa_cons (pe_op op_mod (pe_op op_add (pv 13) pe_int) pe_int) (pa_cons (pe_tup pa_nil) pa_nil)))) pa_nil)))) pa_nil))))) (pa_cons pe_str pa_nil))) pa_nil)))
  (pss_cons (ps_expr (pe_bm PySem.F.plainAttrs_list PySem.F.slot_list_append PySem.F.type_list_append mt_append (pv 4) (pa_cons (pe_tup (pa_cons (pe_op op_cat (pe_slice sl_list (pv 6) po_none (po_some pe_int)) (pe_lst (pa_cons (pe_tup (pa_cons pe_int (pa_cons (pe_tup (pa_cons pe_str (pa_cons (pe_tup (pa_cons pe_str (pa_cons pe_int pa_nil))) (pa_cons (pe_tup (pa_cons pe_str (pa_cons pe_int (pa_cons (pe_tup pa_nil) pa_nil)))) pa_nil)))) pa_nil))) pa_nil))) (pa_cons pe_str pa_nil))) pa_nil)))
  (pss_cons (ps_expr (pe_bm PySem.F.plainAttrs_list PySem.F.slot_list_append PySem.F.type_list_append mt_append (pv 4) (pa_cons (pe_tup (pa_cons (pe_lst (pa_cons (pe_tup (pa_cons pe_int (pa_cons (pe_tup (pa_cons pe_str (pa_cons pe_str (pa_cons (pe_tup pa_nil) pa_nil)))) pa_nil))) (pa_cons (pe_tup (pa_cons pe_int (pa_cons (pe_tup (pa_cons pe_str (pa_cons pe_str (pa_cons (pe_tup pa_nil) pa_nil)))) pa_nil))) (pa_cons (pe_tup (pa_cons pe_int (pa_cons (pe_tup (pa_cons pe_str (pa_cons pe_str (pa_cons (pe_tup pa_nil) pa_nil)))) pa_nil))) pa_nil)))) (pa_cons pe_str pa_nil))) pa_nil)))
  (pss_cons (ps_set (i := 7) sc__law_known.nd rfl (.inl rfl) (pe_tup (pa_cons pe_str (pa_cons (pe_tup (pa_cons pe_str (pa_cons (pe_tup (pa_cons pe_str (pa_cons pe_int pa_nil))) (pa_cons (pe_tup (pa_cons pe_str (pa_cons (pv 0) (pa_cons (pv 0) (pa_cons (pe_tup (pa_cons pe_str (pa_cons pe_int pa_nil))) pa_nil))))) pa_nil)))) (pa_cons (pv 0) pa_nil)))))
  (pss_cons (ps_set (i := 8) sc__law_known.nd rfl (.inl rfl) (pe_tup (pa_cons pe_str (pa_cons (pe_tup (pa_cons pe_str (pa_cons (pe_tup (pa_cons pe_str (pa_cons pe_int pa_nil))) (pa_cons (pe_tup (pa_cons pe_str (pa_cons (pv 0) (pa_cons (pv 0) (pa_cons (pe_tup (pa_cons pe_str (pa_cons pe_int pa_nil))) pa_nil))))) pa_nil)))) (pa_cons (pv 0) pa_nil)))))
  (pss_cons (ps_expr (pe_bm PySem.F.plainAttrs_list PySem.F.slot_list_append PySem.F.type_list_append mt_append (pv 4) (pa_cons (pe_tup (pa_cons (pe_lst (pa_cons (pe_tup (pa_cons pe_int (pa_cons (pv 7) pa_nil))) (pa_cons (pe_tup (pa_cons pe_int (pa_cons (pv 8) pa_nil))) (pa_cons (pe_tup (pa_cons pe_int (pa_cons (pv 7) pa_nil))) (pa_cons (pe_tup (pa_cons pe_int (pa_cons (pv 7) pa_nil))) pa_nil))))) (pa_cons pe_str pa_nil))) pa_nil)))
  (pss_cons (ps_set (i := 9) sc__law_known.nd rfl (.inl rfl) (pe_lst (pa_cons (pe_tup (pa_cons pe_str (pa_cons pe_int (pa_cons (pe_tup pa_nil) pa_nil)))) (pa_cons (pe_tup (pa_cons pe_str (pa_cons pe_int (pa_cons (pe_tup pa_nil) pa_nil)))) pa_nil))))
  (pss_cons (ps_set (i := 10) sc__law_known.nd rfl (.inl rfl) (pe_lst (pa_cons (pe_tup (pa_cons pe_int (pa_cons (pe_tup (pa_cons pe_str (pa_cons (pe_ix (r := rIxL K) ix_list (pv 9) pe_int (fun _ _ => rfl)) (pa_cons (pe_ix (r := rIxL K) ix_list (pv 9) pe_int (fun _ _ => rfl)) pa_nil)))) pa_nil))) (pa_cons (pe_tup (pa_cons pe_int (pa_cons (pe_tup (pa_cons pe_str (pa_cons (pe_ix (r := rIxL K) ix_list (pv 9) pe_int (fun _ _ => rfl)) (pa_cons (pe_ix (r := rIxL K) ix_list (pv 9) pe_int (fun _ _ => rfl)) pa_nil)))) pa_nil))) (pa_cons (pe_tup (pa_cons pe_int (pa_cons (pe_tup (pa_cons pe_str (pa_cons pe_int pa_nil))) pa_nil))) (pa_cons (pe_tup (pa_cons pe_int (pa_cons (pe_tup (pa_cons pe_str (pa_cons pe_int pa_nil))) pa_nil))) pa_nil))))))
  (pss_cons (ps_expr (pe_bm PySem.F.plainAttrs_list PySem.F.slot_list_append PySem.F.type_list_append mt_append (pv 4) (pa_cons (pe_tup (pa_cons (pv 10) (pa_cons pe_str pa_nil))) pa_nil)))
  (pss_cons (ps_expr (pe_bm PySem.F.plainAttrs_list PySem.F.slot_list_append PySem.F.type_list_append mt_append (pv 4) (pa_cons (pe_tup (pa_cons (pe_op op_cat (pe_slice sl_list (pv 10) po_none (po_some pe_int)) (pe_lst (pa_cons (pe_tup (pa_cons pe_int (pa_cons (pe_tup (pa_cons pe_str (pa_cons pe_int pa_nil))) pa_nil))) pa_nil))) (pa_cons pe_str pa_nil))) pa_nil)))
  (pss_cons (ps_setLc (i := 11) (own := [("k", 13)]) (g := (gName 13)) (tt := tYes) rfl sc__law_known.nd rfl rfl (sw_true rfl rfl rfl rfl) (pi_range1 rfl T.z_range (pa_cons pe_int pa_nil)) (blkOk_by (N := N__law_known) (sc := defScope s__law_known) (by decide +kernel)) (fun _ _ _ _ _ => (pg_name (i := 13) sc__law_known.nd rfl (.inl rfl))) (fun _ _ _ _ _ => pts_nil) (fun _ _ _ _ _ => (pe_tup (pa_cons pe_int (pa_cons (pe_tup (pa_cons pe_str (pa_cons (pe_tup (pa_cons pe_str (pa_cons pe_int pa_nil))) (pa_cons (pe_tup (pa_cons pe_str (pa_cons (pe_op op_mod (pe_op op_add (pv 13) pe_int) pe_int) (pa_cons (pe_tup pa_nil) pa_nil)))) pa_nil)))) pa_nil)))))
  (pss_cons (ps_expr (pe_bm PySem.F.plainAttrs_list PySem.F.slot_list_append PySem.F.type_list_append mt_append (pv 4) (pa_cons (pe_tup (pa_cons (pv 11) (pa_cons pe_str pa_nil))) pa_nil)))
  (pss_cons (ps_expr (pe_bm PySem.F.plainAttrs_list PySem.F.slot_list_append PySem.F.type_list_append mt_append (pv 4) (pa_cons (pe_tup (pa_cons (pe_op op_cat (pe_slice sl_list (pv 11) po_none (po_some pe_int)) (pe_lst (pa_cons (pe_tup (pa_cons pe_int (pa_cons (pe_tup (pa_cons pe_str (pa_cons (pe_tup (pa_cons pe_str (pa_cons pe_int pa_nil))) (pa_cons (pe_tup (pa_cons pe_str (pa_cons pe_int (pa_cons (pe_tup pa_nil) pa_nil)))) pa_nil)))) pa_nil))) pa_nil))) (pa_cons pe_str pa_nil))) pa_nil)))
  (pss_one (ps_ret (pv 4))))))))))))))))))))))))), ?_⟩
  let N14 : L2.St := [none, none, none, none, none, none, none, none, none, none, none, none, none, none]
  let A0 : L2.St → Hp → Prop := fun σ H' => σ = [none, none, none, none, none, none, none, none, none, none, none, none, none, none] ∧ H' = H
  let A1 : L2.St → Hp → Prop := fun σ H' => ∃ v0, σ = [some v0, none, none, none, none, none, none, none, none, none, none, none, none, none] ∧ Ex H H' ∧ TmAt H' v0 (.arg 0)
  let A2 : L2.St → Hp → Prop := fun σ H' => ∃ v0 v1, σ = [some v0, some v1, none, none, none, none, none, none, none, none, none, none, none, none] ∧ Ex H H' ∧ TmAt H' v0 (.arg 0) ∧ TmAt H' v1 kStep
  let A3 : L2.St → Hp → Prop := fun σ H' => ∃ v0 v1 v2, σ = [some v0, some v1, some v2, none, none, none, none, none, none, none, none, none, none, none] ∧ Ex H H' ∧ TmAt H' v0 (.arg 0) ∧ TmAt H' v1 kStep ∧ TmAt H' v2 kEven
  let A4 : L2.St → Hp → Prop := fun σ H' => ∃ v0 v1 v2 v3, σ = [some v0, some v1, some v2, some v3, none, none, none, none, none, none, none, none, none, none] ∧ Ex H H' ∧ TmAt H' v0 (.arg 0) ∧ TmAt H' v1 kStep ∧ TmAt H' v2 kEven ∧ TmAt H' v3 kOdd
  refine (Hs.fin (A := A0) (B := A1) ?_ (Hs.fin (B := A2) ?_ (Hs.fin (B := A3) ?_ (Hs.fin (B := A4) ?_ (Hs.fin (B := SK9 H (known9.take 1) (some (.arg 0)) (some kStep) (some kEven) (some kOdd) none none none none none none none) ?_ (Hs.fin (B := SK9 H (known9.take 1) (some (.arg 0)) (some kStep) (some kEven) (some kOdd) (some ([1, 0, 2].map (stepB 1))) none none none none none none) ?_ (Hs.fin (B := SK9 H (known9.take 2) (some (.arg 0)) (some kStep) (some kEven) (some kOdd) (some ([1, 0, 2].map (stepB 1))) none none none none none none) ?_ (Hs.fin (B := SK9 H (known9.take 2) (some (.arg 0)) (some kStep) (some kEven) (some kOdd) (some ([1, 0, 2].map (stepB 1))) (some (kSix 2)) none none none none none) ?_ (Hs.fin (B := SK9 H (known9.take 3) (some (.arg 0)) (some kStep) (some kEven) (some kOdd) (some ([1, 0, 2].map (stepB 1))) (some (kSix 2)) none none none none none) ?_ (Hs.fin (B := SK9 H (known9.take 4) (some (.arg 0)) (some kStep) (some kEven) (some kOdd) (some ([1, 0, 2].map (stepB 1))) (some (kSix 2)) none none none none none) ?_ (Hs.fin (B := SK9 H (known9.take 5) (some (.arg 0)) (some kStep) (some kEven) (some kOdd) (some ([1, 0, 2].map (stepB 1))) (some (kSix 2)) none none none none none) ?_ (Hs.fin (B := SK9 H (known9.take 6) (some (.arg 0)) (some kStep) (some kEven) (some kOdd) (some ([1, 0, 2].map (stepB 1))) (some (kSix 2)) none none none none none) ?_ (Hs.fin (B := SK9 H (known9.take 6) (some (.arg 0)) (some kStep) (some kEven) (some kOdd) (some ([1, 0, 2].map (stepB 1))) (some (kSix 2)) (some (kDeep 4)) none none none none) ?_ (Hs.fin (B := SK9 H (known9.take 6) (some (.arg 0)) (some kStep) (some kEven) (some kOdd) (some ([1, 0, 2].map (stepB 1))) (some (kSix 2)) (some (kDeep 4)) (some (kDeep 5)) none none none) ?_ (Hs.fin (B := SK9 H (known9.take 7) (some (.arg 0)) (some kStep) (some kEven) (some kOdd) (some ([1, 0, 2].map (stepB 1))) (some (kSix 2)) (some (kDeep 4)) (some (kDeep 5)) none none none) ?_ (Hs.fin (B := SK9 H (known9.take 7) (some (.arg 0)) (some kStep) (some kEven) (some kOdd) (some ([1, 0, 2].map (stepB 1))) (some (kSix 2)) (some (kDeep 4)) (some (kDeep 5)) (some [rg 2 [], rg 3 []]) none none) ?_ (Hs.fin (B := SK9 H (known9.take 7) (some (.arg 0)) (some kStep) (some kEven) (some kOdd) (some ([1, 0, 2].map (stepB 1))) (some (kSix 2)) (some (kDeep 4)) (some (kDeep 5)) (some [rg 2 [], rg 3 []]) (some kTwo) none) ?_ (Hs.fin (B := SK9 H (known9.take 8) (some (.arg 0)) (some kStep) (some kEven) (some kOdd) (some ([1, 0, 2].map (stepB 1))) (some (kSix 2)) (some (kDeep 4)) (some (kDeep 5)) (some [rg 2 [], rg 3 []]) (some kTwo) none) ?_ (Hs.fin (B := SK9 H (known9.take 9) (some (.arg 0)) (some kStep) (some kEven) (some kOdd) (some ([1, 0, 2].map (stepB 1))) (some (kSix 2)) (some (kDeep 4)) (some (kDeep 5)) (some [rg 2 [], rg 3 []]) (some kTwo) none) ?_ (Hs.fin (B := SK9 H (known9.take 9) (some (.arg 0)) (some kStep) (some kEven) (some kOdd) (some ([1, 0, 2].map (stepB 1))) (some (kSix 2)) (some (kDeep 4)) (some (kDeep 5)) (some [rg 2 [], rg 3 []]) (some kTwo) (some kTwelve)) ?_ (Hs.fin (B := SK9 H (known9.take 10) (some (.arg 0)) (some kStep) (some kEven) (some kOdd) (some ([1, 0, 2].map (stepB 1))) (some (kSix 2)) (some (kDeep 4)) (some (kDeep 5)) (some [rg 2 [], rg 3 []]) (some kTwo) (some kTwelve)) ?_ (Hs.fin (B := SK9 H (known9.take 11) (some (.arg 0)) (some kStep) (some kEven) (some kOdd) (some ([1, 0, 2].map (stepB 1))) (some (kSix 2)) (some (kDeep 4)) (some (kDeep 5)) (some [rg 2 [], rg 3 []]) (some kTwo) (some kTwelve)) ?_ (Q := Q) ?_)))))))))))))))))))))) _ _ H ⟨rfl, rfl⟩ fun v H' h => h
  · rintro D σ H0 ⟨rfl, rfl⟩ kk
    exact asg_go9 (yl_go9 (yl_arg (yl_c (.int ((0 : Nat) : Int)))) fun H1 v e r => kk _ _ ⟨v, rfl, e, r⟩)
  · rintro D σ H0 ⟨v0, rfl, e0, t0⟩ kk
    exact asg_go9 (yl_go9 (yl_op .less (ya_t (yl_varT t0) (ya_t (yl_num (n := 1) (yl_c (.int ((1 : Nat) : Int)))) ya_tnil))) fun H1 v e r => kk _ _ ⟨v0, v, rfl, e0.trans e, t0.ex e, r⟩)
  · rintro D σ H0 ⟨v0, v1, rfl, e0, t0, t1⟩ kk
    exact asg_go9 (yl_go9 (yl_op .cond (ya_t (yl_varT t0) (ya_t (yl_ring 1 (ya_t (yl_varT t1) ya_tnil)) (ya_t (yl_num (n := 1) (yl_c (.int ((1 : Nat) : Int)))) ya_tnil)))) fun H1 v e r => kk _ _ ⟨v0, v1, v, rfl, e0.trans e, t0.ex e, t1.ex e, r⟩)
  · rintro D σ H0 ⟨v0, v1, v2, rfl, e0, t0, t1, t2⟩ kk
    exact asg_go9 (yl_go9 (yl_op .cond (ya_t (yl_varT t0) (ya_t (yl_ring 0 (ya_t (yl_varT t1) ya_tnil)) (ya_t (yl_num (n := 0) (yl_c (.int ((0 : Nat) : Int)))) ya_tnil)))) fun H1 v e r => kk _ _ ⟨v0, v1, v2, v, rfl, e0.trans e, t0.ex e, t1.ex e, t2.ex e, r⟩)
  · rintro D σ H0 ⟨v0, v1, v2, v3, rfl, e0, t0, t1, t2, t3⟩ kk
    refine asg_go9 (lst_go9 (cons_go9 (tup_go9 (cons_go9 (yl_go9 (yl_ls (ya_b (yl_bod (c := 1) (yl_varT t2)) (ya_b (yl_bod (c := 1) (yl_varT t3)) ya_bnil))) fun H1 v e r => ?_)))))
    obtain ⟨l, xs, rfl, hl, hxs, g⟩ := r
    refine ⟨sz 2, fun q1 hq1 => ⟨sz 1, fun p hp => kk _ _ ?_⟩⟩
    have f1 := Ex.new (o := .tup [V.ref l, .str "ab"]) hq1
    have f2 := Ex.new (o := .lst [V.ref q1]) hp
    have ee := e.trans (f1.trans f2)
    have hp0 : H0 p = none := fresh_back (e.trans f1) hp
    have hl1 := (f1.trans f2) _ _ hxs
    have lp : l ≠ p := neN (f1 _ _ hxs) hp
    exact ⟨p, _, _, _, _, _, _, _, _, _, _, _, _, rfl, e0.trans ee, fresh_back e0 hp0, upd_same, .cons ⟨q1, l, xs, rfl, f2 _ _ upd_same, hl1, g.ex (f1.trans f2), lp⟩ .nil, t0.ex ee, t1.ex ee, t2.ex ee, t3.ex ee, trivial, trivial, trivial, trivial, trivial, trivial, trivial⟩
  · rintro D σ H1 ⟨p, ws, y0, y1, y2, y3, y5, y6, y7, y8, y9, y10, y11, rfl, k⟩ kk
    -- one
    refine ⟨sz 3, fun tp htp => ?_⟩
    have f1 := Ex.new (o := .tup [V.int 1, .int 0, .int 2]) htp
    have h1 : (upd H1 tp (.tup [V.int 1, .int 0, .int 2])) tp = some (.tup [V.int 1, .int 0, .int 2]) := upd_same
    generalize upd H1 tp (.tup [V.int 1, .int 0, .int 2]) = H2 at f1 h1 ⊢
    refine ⟨tp, rfl, ⟨_, SqT.of h1⟩, fun Dl hD => ?_⟩
    refine lc_tup (xs := [V.int 1, .int 0, .int 2]) (fun i H3 => Ex H2 H3 ∧ ∃ vs, H3 Dl = some (.lst vs) ∧ BodsAt H3 vs (([1, 0, 2].take i).map (stepB 1))) ⟨Ex.new hD, [], upd_same, .nil⟩ (fun i H3 _ z => SqT.of (z.1 _ _ h1)) ?_ ?_
    · rintro i x H3 hi ⟨e3, vs, h3, g3⟩
      obtain ⟨j, hj, rfl⟩ := intsV_get (cs := [1, 0, 2]) hi
      refine ⟨rfl, yes (yl_go9 (yl_bod (c := 0) (yl_op .add (ya_t (yl_num (n := 1) (yl_c (.int ((1 : Nat) : Int)))) (ya_t (yl_ringv (yl_varV (.int (j : Int)))) ya_tnil)))) fun H4 v e4 r4 => ?_)⟩
      have h4 := e4 _ _ h3
      have tu : Tu H4 (upd H4 Dl (.lst (vs ++ [v]))) := (But.upd (But.refl Dl H4)).tu h4
      have lv := g3.len
      rw [List.length_map, List.length_take] at lv
      have i3 : i < 3 := (List.getElem?_eq_some_iff.mp hj).1
      refine ⟨vs, h4, small1000 (by omega), Ex.mut (e3.trans e4) hD, vs ++ [v], upd_same, ?_⟩
      rw [take_more hj, List.map_append]
      exact ((g3.ex e4).tu tu).app (.cons (BodAt.tu r4 tu) .nil)
    · rintro H3 ⟨e3, vs, h3, g3⟩
      have u := k.up (f1.trans e3)
      have lp : Dl ≠ p := (neN (f1 _ _ k.l) hD).symm
      exact kk _ _ ⟨p, _, _, _, _, _, _, _, _, _, _, _, _, rfl, ⟨u.e, u.n, u.l, u.c, u.h0, u.h1, u.h2, u.h3, ⟨Dl, vs, rfl, h3, g3, lp⟩, u.h6, u.h7, u.h8, u.h9, u.h10, u.h11⟩⟩
  · rintro D σ H1 ⟨p, ws, y0, y1, y2, y3, y5, y6, y7, y8, y9, y10, y11, rfl, k⟩ kk
    -- app one
    obtain ⟨l, xs, rfl, hxs, g, lp⟩ := k.h5.get
    refine ⟨_, rfl, .inl ⟨rfl, _, SqL.of k.l⟩, _, rfl, sz 2, fun q1 hq1 => ?_⟩
    obtain ⟨a1, a2, a3⟩ := k.put (Ex.refl H1) hxs g lp hq1
    exact ⟨p, ws, _, rfl, rfl, a1, small1000 (by rw [a2]; decide), kk _ _ ⟨p, _, _, _, _, _, _, _, _, _, _, _, _, rfl, a3⟩⟩
  · rintro D σ H1 ⟨p, ws, y0, y1, y2, y3, y5, y6, y7, y8, y9, y10, y11, rfl, k⟩ kk
    -- six
    refine asg_go9 (yl_go9 (yl_rng (n := 6) (s := 13) (f := fun k => stepB (k % 2) ((k + 1) % 6)) (by decide) (show 13 < 14 by decide) fun i σ' H' hi e hs => yl_bod (c := 0) (yl_op .add (ya_t (yl_num (yl_mod (m := 2) (by decide) hs)) (ya_t (yl_ringv (yl_mod1 (m := 6) (by decide) hs)) ya_tnil)))) fun H2 v e r => ?_)
    obtain ⟨l, xs, rfl, hl, hxs, g⟩ := r
    have u := k.up e
    have lp : l ≠ p := (neN k.l hl).symm
    exact kk _ _ ⟨p, _, _, _, _, _, _, _, _, _, _, _, _, rfl, ⟨u.e, u.n, u.l, u.c, u.h0, u.h1, u.h2, u.h3, u.h5, ⟨l, xs, rfl, hxs, g, lp⟩, u.h7, u.h8, u.h9, u.h10, u.h11⟩⟩
  · rintro D σ H1 ⟨p, ws, y0, y1, y2, y3, y5, y6, y7, y8, y9, y10, y11, rfl, k⟩ kk
    -- app six
    obtain ⟨l, xs, rfl, hxs, g, lp⟩ := k.h6.get
    refine ⟨_, rfl, .inl ⟨rfl, _, SqL.of k.l⟩, _, rfl, sz 2, fun q1 hq1 => ?_⟩
    obtain ⟨a1, a2, a3⟩ := k.put (Ex.refl H1) hxs g lp hq1
    exact ⟨p, ws, _, rfl, rfl, a1, small1000 (by rw [a2]; decide), kk _ _ ⟨p, _, _, _, _, _, _, _, _, _, _, _, _, rfl, a3⟩⟩
  · rintro D σ H1 ⟨p, ws, y0, y1, y2, y3, y5, y6, y7, y8, y9, y10, y11, rfl, k⟩ kk
    -- app mod3
    refine ⟨_, rfl, .inl ⟨rfl, _, SqL.of k.l⟩, tup_go9 (cons_go9 (yl_go9 (yl_rng (n := 6) (s := 13) (f := fun k => stepB (k % 3) ((k + 1) % 6)) (by decide) (show 13 < 14 by decide) fun i σ' H' hi e hs => yl_bod (c := 0) (yl_op .add (ya_t (yl_num (yl_mod (m := 3) (by decide) hs)) (ya_t (yl_ringv (yl_mod1 (m := 6) (by decide) hs)) ya_tnil)))) fun H2 v e r => ?_))⟩
    obtain ⟨l, xs, rfl, hl, hxs, g⟩ := r
    have lp : l ≠ p := (neN k.l hl).symm
    refine ⟨sz 2, fun q1 hq1 => ?_⟩
    obtain ⟨a1, a2, a3⟩ := k.put e hxs g lp hq1
    exact ⟨p, ws, _, rfl, rfl, a1, small1000 (by rw [a2]; decide), kk _ _ ⟨p, _, _, _, _, _, _, _, _, _, _, _, _, rfl, a3⟩⟩
  · rintro D σ H1 ⟨p, ws, y0, y1, y2, y3, y5, y6, y7, y8, y9, y10, y11, rfl, k⟩ kk
    -- app six5
    obtain ⟨l, xs, rfl, hxs, g, lp⟩ := k.h6.get
    refine ⟨_, rfl, .inl ⟨rfl, _, SqL.of k.l⟩, _, rfl, 5, rfl, l, xs, rfl, SqL.of hxs, fun s1 hs1 => ?_⟩
    rw [show (some (5 : Int)) = some ((5 : Nat) : Int) from rfl, cut_take]
    have f1 := Ex.new (o := .lst (xs.take 5)) hs1
    have h1 : (upd H1 s1 (.lst (xs.take 5))) s1 = some (.lst (xs.take 5)) := upd_same
    have sp : s1 ≠ p := (neN k.l hs1).symm
    generalize upd H1 s1 (.lst (xs.take 5)) = H2 at f1 h1 ⊢
    refine yl_go9 (yl_ls (ya_b (yl_bod (c := 0) (yl_op .add (ya_t (yl_num (n := 2) (yl_c (.int ((2 : Nat) : Int)))) (ya_t (yl_ring 0 ya_tnil) ya_tnil)))) ya_bnil)) fun H3 v e r => ?_
    obtain ⟨l2, xs2, rfl, hl2, hxs2, g2⟩ := r
    have lx : (xs.take 5).length ≤ 5 := by rw [List.length_take]; omega
    have lx2 : xs2.length = 1 := g2.len
    refine ⟨s1, l2, _, _, rfl, rfl, e _ _ h1, hxs2, small1000' (by omega), fun c1 hc1 => ?_⟩
    have f2 := Ex.new (o := .lst (xs.take 5 ++ xs2)) hc1
    have h2 : (upd H3 c1 (.lst (xs.take 5 ++ xs2))) c1 = some (.lst (xs.take 5 ++ xs2)) := upd_same
    have cp : c1 ≠ p := (neN (e _ _ (f1 _ _ k.l)) hc1).symm
    have ee := f1.trans (e.trans f2)
    have gg := ((g.take 5).ex ee).app (g2.ex f2)
    generalize upd H3 c1 (.lst (xs.take 5 ++ xs2)) = H4 at f2 h2 ee gg ⊢
    refine ⟨sz 2, fun q1 hq1 => ?_⟩
    obtain ⟨a1, a2, a3⟩ := k.put ee h2 gg cp hq1
    exact ⟨p, ws, _, rfl, rfl, a1, small1000 (by rw [a2]; decide), kk _ _ ⟨p, _, _, _, _, _, _, _, _, _, _, _, _, rfl, a3⟩⟩
  · rintro D σ H1 ⟨p, ws, y0, y1, y2, y3, y5, y6, y7, y8, y9, y10, y11, rfl, k⟩ kk
    -- app marks
    refine ⟨_, rfl, .inl ⟨rfl, _, SqL.of k.l⟩, tup_go9 (cons_go9 (yl_go9 (yl_ls (ya_b (yl_bod (c := 0) (yl_call "00000a" ya_tnil)) (ya_b (yl_bod (c := 0) (yl_call "00000b" ya_tnil)) (ya_b (yl_bod (c := 0) (yl_call "00000a" ya_tnil)) ya_bnil)))) fun H2 v e r => ?_))⟩
    obtain ⟨l, xs, rfl, hl, hxs, g⟩ := r
    have lp : l ≠ p := (neN k.l hl).symm
    refine ⟨sz 2, fun q1 hq1 => ?_⟩
    obtain ⟨a1, a2, a3⟩ := k.put e hxs g lp hq1
    exact ⟨p, ws, _, rfl, rfl, a1, small1000 (by rw [a2]; decide), kk _ _ ⟨p, _, _, _, _, _, _, _, _, _, _, _, _, rfl, a3⟩⟩
  · rintro D σ H1 ⟨p, ws, y0, y1, y2, y3, y5, y6, y7, y8, y9, y10, y11, rfl, k⟩ kk
    -- deep
    obtain ⟨v0, rfl, t0⟩ := k.h0.get
    refine asg_go9 (yl_go9 (yl_op .times (ya_t (yl_op .add (ya_t (yl_num (n := 3) (yl_c (.int ((3 : Nat) : Int)))) (ya_t (yl_op .cond (ya_t (yl_varT t0) (ya_t (yl_varT t0) (ya_t (yl_num (n := 4) (yl_c (.int ((4 : Nat) : Int)))) ya_tnil)))) ya_tnil))) (ya_t (yl_varT t0) ya_tnil))) fun H2 v e r => ?_)
    have u := k.up e
    exact kk _ _ ⟨p, _, _, _, _, _, _, _, _, _, _, _, _, rfl, ⟨u.e, u.n, u.l, u.c, u.h0, u.h1, u.h2, u.h3, u.h5, u.h6, r, u.h8, u.h9, u.h10, u.h11⟩⟩
  · rintro D σ H1 ⟨p, ws, y0, y1, y2, y3, y5, y6, y7, y8, y9, y10, y11, rfl, k⟩ kk
    -- other
    obtain ⟨v0, rfl, t0⟩ := k.h0.get
    refine asg_go9 (yl_go9 (yl_op .times (ya_t (yl_op .add (ya_t (yl_num (n := 3) (yl_c (.int ((3 : Nat) : Int)))) (ya_t (yl_op .cond (ya_t (yl_varT t0) (ya_t (yl_varT t0) (ya_t (yl_num (n := 5) (yl_c (.int ((5 : Nat) : Int)))) ya_tnil)))) ya_tnil))) (ya_t (yl_varT t0) ya_tnil))) fun H2 v e r => ?_)
    have u := k.up e
    exact kk _ _ ⟨p, _, _, _, _, _, _, _, _, _, _, _, _, rfl, ⟨u.e, u.n, u.l, u.c, u.h0, u.h1, u.h2, u.h3, u.h5, u.h6, u.h7, r, u.h9, u.h10, u.h11⟩⟩
  · rintro D σ H1 ⟨p, ws, y0, y1, y2, y3, y5, y6, y7, y8, y9, y10, y11, rfl, k⟩ kk
    -- app deep
    obtain ⟨v7, rfl, t7⟩ := k.h7.get
    obtain ⟨v8, rfl, t8⟩ := k.h8.get
    refine ⟨_, rfl, .inl ⟨rfl, _, SqL.of k.l⟩, tup_go9 (cons_go9 (yl_go9 (yl_ls (ya_b (yl_bod (c := 1) (yl_varT t7)) (ya_b (yl_bod (c := 1) (yl_varT t8)) (ya_b (yl_bod (c := 2) (yl_varT t7)) (ya_b (yl_bod (c := 1) (yl_varT t7)) ya_bnil))))) fun H2 v e r => ?_))⟩
    obtain ⟨l, xs, rfl, hl, hxs, g⟩ := r
    have lp : l ≠ p := (neN k.l hl).symm
    refine ⟨sz 2, fun q1 hq1 => ?_⟩
    obtain ⟨a1, a2, a3⟩ := k.put e hxs g lp hq1
    exact ⟨p, ws, _, rfl, rfl, a1, small1000 (by rw [a2]; decide), kk _ _ ⟨p, _, _, _, _, _, _, _, _, _, _, _, _, rfl, a3⟩⟩
  · rintro D σ H1 ⟨p, ws, y0, y1, y2, y3, y5, y6, y7, y8, y9, y10, y11, rfl, k⟩ kk
    -- pair
    refine asg_go9 (lst_go9 (cons_go9 (yl_go9 (yl_ring 2 ya_tnil) fun H2 v2 e2 r2 => cons_go9 (yl_go9 (yl_ring 3 ya_tnil) fun H3 v3 e3 r3 => ?_))))
    refine ⟨sz 2, fun l hl => ?_⟩
    have f := Ex.new (o := .lst [v2, v3]) hl
    have u := k.up (e2.trans (e3.trans f))
    have lp : l ≠ p := (neN ((e2.trans e3) _ _ k.l) hl).symm
    exact kk _ _ ⟨p, _, _, _, _, _, _, _, _, _, _, _, _, rfl, ⟨u.e, u.n, u.l, u.c, u.h0, u.h1, u.h2, u.h3, u.h5, u.h6, u.h7, u.h8, ⟨l, [v2, v3], rfl, upd_same, .cons (TmAt.ex r2 (e3.trans f)) (.cons (TmAt.ex r3 f) .nil), lp⟩, u.h10, u.h11⟩⟩
  · rintro D σ H1 ⟨p, ws, y0, y1, y2, y3, y5, y6, y7, y8, y9, y10, y11, rfl, k⟩ kk
    -- two
    obtain ⟨l9, xs9, rfl, h9, g9, lp9⟩ := k.h9.get
    refine asg_go9 (yl_go9 (yl_ls (ya_b (yl_bod (c := 0) (yl_op .add (ya_t (yl_ixp (s := 9) (i := 0) rfl h9 g9 rfl) (ya_t (yl_ixp (s := 9) (i := 1) rfl h9 g9 rfl) ya_tnil)))) (ya_b (yl_bod (c := 0) (yl_op .add (ya_t (yl_ixp (s := 9) (i := 0) rfl h9 g9 rfl) (ya_t (yl_ixp (s := 9) (i := 0) rfl h9 g9 rfl) ya_tnil)))) (ya_b (yl_bod (c := 0) (yl_num (n := 1) (yl_c (.int ((1 : Nat) : Int))))) (ya_b (yl_bod (c := 0) (yl_num (n := 2) (yl_c (.int ((2 : Nat) : Int))))) ya_bnil))))) fun H2 v e r => ?_)
    obtain ⟨l, xs, rfl, hl, hxs, g⟩ := r
    have u := k.up e
    have lp : l ≠ p := (neN k.l hl).symm
    exact kk _ _ ⟨p, _, _, _, _, _, _, _, _, _, _, _, _, rfl, ⟨u.e, u.n, u.l, u.c, u.h0, u.h1, u.h2, u.h3, u.h5, u.h6, u.h7, u.h8, u.h9, ⟨l, xs, rfl, hxs, g, lp⟩, u.h11⟩⟩
  · rintro D σ H1 ⟨p, ws, y0, y1, y2, y3, y5, y6, y7, y8, y9, y10, y11, rfl, k⟩ kk
    -- app two
    obtain ⟨l, xs, rfl, hxs, g, lp⟩ := k.h10.get
    refine ⟨_, rfl, .inl ⟨rfl, _, SqL.of k.l⟩, _, rfl, sz 2, fun q1 hq1 => ?_⟩
    obtain ⟨a1, a2, a3⟩ := k.put (Ex.refl H1) hxs g lp hq1
    exact ⟨p, ws, _, rfl, rfl, a1, small1000 (by rw [a2]; decide), kk _ _ ⟨p, _, _, _, _, _, _, _, _, _, _, _, _, rfl, a3⟩⟩
  · rintro D σ H1 ⟨p, ws, y0, y1, y2, y3, y5, y6, y7, y8, y9, y10, y11, rfl, k⟩ kk
    -- app two3
    obtain ⟨l, xs, rfl, hxs, g, lp⟩ := k.h10.get
    refine ⟨_, rfl, .inl ⟨rfl, _, SqL.of k.l⟩, _, rfl, 3, rfl, l, xs, rfl, SqL.of hxs, fun s1 hs1 => ?_⟩
    rw [show (some (3 : Int)) = some ((3 : Nat) : Int) from rfl, cut_take]
    have f1 := Ex.new (o := .lst (xs.take 3)) hs1
    have h1 : (upd H1 s1 (.lst (xs.take 3))) s1 = some (.lst (xs.take 3)) := upd_same
    have sp : s1 ≠ p := (neN k.l hs1).symm
    generalize upd H1 s1 (.lst (xs.take 3)) = H2 at f1 h1 ⊢
    refine yl_go9 (yl_ls (ya_b (yl_bod (c := 0) (yl_num (n := 1) (yl_c (.int ((1 : Nat) : Int))))) ya_bnil)) fun H3 v e r => ?_
    obtain ⟨l2, xs2, rfl, hl2, hxs2, g2⟩ := r
    have lx : (xs.take 3).length ≤ 3 := by rw [List.length_take]; omega
    have lx2 : xs2.length = 1 := g2.len
    refine ⟨s1, l2, _, _, rfl, rfl, e _ _ h1, hxs2, small1000' (by omega), fun c1 hc1 => ?_⟩
    have f2 := Ex.new (o := .lst (xs.take 3 ++ xs2)) hc1
    have h2 : (upd H3 c1 (.lst (xs.take 3 ++ xs2))) c1 = some (.lst (xs.take 3 ++ xs2)) := upd_same
    have cp : c1 ≠ p := (neN (e _ _ (f1 _ _ k.l)) hc1).symm
    have ee := f1.trans (e.trans f2)
    have gg := ((g.take 3).ex ee).app (g2.ex f2)
    generalize upd H3 c1 (.lst (xs.take 3 ++ xs2)) = H4 at f2 h2 ee gg ⊢
    refine ⟨sz 2, fun q1 hq1 => ?_⟩
    obtain ⟨a1, a2, a3⟩ := k.put ee h2 gg cp hq1
    exact ⟨p, ws, _, rfl, rfl, a1, small1000 (by rw [a2]; decide), kk _ _ ⟨p, _, _, _, _, _, _, _, _, _, _, _, _, rfl, a3⟩⟩
  · rintro D σ H1 ⟨p, ws, y0, y1, y2, y3, y5, y6, y7, y8, y9, y10, y11, rfl, k⟩ kk
    -- twelve
    refine asg_go9 (yl_go9 (yl_rng (n := 12) (s := 13) (f := fun k => stepB 1 ((k + 1) % 12)) (by decide) (show 13 < 14 by decide) fun i σ' H' hi e hs => yl_bod (c := 0) (yl_op .add (ya_t (yl_num (n := 1) (yl_c (.int ((1 : Nat) : Int)))) (ya_t (yl_ringv (yl_mod1 (m := 12) (by decide) hs)) ya_tnil)))) fun H2 v e r => ?_)
    obtain ⟨l, xs, rfl, hl, hxs, g⟩ := r
    have u := k.up e
    have lp : l ≠ p := (neN k.l hl).symm
    exact kk _ _ ⟨p, _, _, _, _, _, _, _, _, _, _, _, _, rfl, ⟨u.e, u.n, u.l, u.c, u.h0, u.h1, u.h2, u.h3, u.h5, u.h6, u.h7, u.h8, u.h9, u.h10, ⟨l, xs, rfl, hxs, g, lp⟩⟩⟩
  · rintro D σ H1 ⟨p, ws, y0, y1, y2, y3, y5, y6, y7, y8, y9, y10, y11, rfl, k⟩ kk
    -- app twelve
    obtain ⟨l, xs, rfl, hxs, g, lp⟩ := k.h11.get
    refine ⟨_, rfl, .inl ⟨rfl, _, SqL.of k.l⟩, _, rfl, sz 2, fun q1 hq1 => ?_⟩
    obtain ⟨a1, a2, a3⟩ := k.put (Ex.refl H1) hxs g lp hq1
    exact ⟨p, ws, _, rfl, rfl, a1, small1000 (by rw [a2]; decide), kk _ _ ⟨p, _, _, _, _, _, _, _, _, _, _, _, _, rfl, a3⟩⟩
  · rintro D σ H1 ⟨p, ws, y0, y1, y2, y3, y5, y6, y7, y8, y9, y10, y11, rfl, k⟩ kk
    -- app last
    obtain ⟨l, xs, rfl, hxs, g, lp⟩ := k.h11.get
    refine ⟨_, rfl, .inl ⟨rfl, _, SqL.of k.l⟩, _, rfl, 11, rfl, l, xs, rfl, SqL.of hxs, fun s1 hs1 => ?_⟩
    rw [show (some (11 : Int)) = some ((11 : Nat) : Int) from rfl, cut_take]
    have f1 := Ex.new (o := .lst (xs.take 11)) hs1
    have h1 : (upd H1 s1 (.lst (xs.take 11))) s1 = some (.lst (xs.take 11)) := upd_same
    have sp : s1 ≠ p := (neN k.l hs1).symm
    generalize upd H1 s1 (.lst (xs.take 11)) = H2 at f1 h1 ⊢
    refine yl_go9 (yl_ls (ya_b (yl_bod (c := 0) (yl_op .add (ya_t (yl_num (n := 2) (yl_c (.int ((2 : Nat) : Int)))) (ya_t (yl_ring 0 ya_tnil) ya_tnil)))) ya_bnil)) fun H3 v e r => ?_
    obtain ⟨l2, xs2, rfl, hl2, hxs2, g2⟩ := r
    have lx : (xs.take 11).length ≤ 11 := by rw [List.length_take]; omega
    have lx2 : xs2.length = 1 := g2.len
    refine ⟨s1, l2, _, _, rfl, rfl, e _ _ h1, hxs2, small1000' (by omega), fun c1 hc1 => ?_⟩
    have f2 := Ex.new (o := .lst (xs.take 11 ++ xs2)) hc1
    have h2 : (upd H3 c1 (.lst (xs.take 11 ++ xs2))) c1 = some (.lst (xs.take 11 ++ xs2)) := upd_same
    have cp : c1 ≠ p := (neN (e _ _ (f1 _ _ k.l)) hc1).symm
    have ee := f1.trans (e.trans f2)
    have gg := ((g.take 11).ex ee).app (g2.ex f2)
    generalize upd H3 c1 (.lst (xs.take 11 ++ xs2)) = H4 at f2 h2 ee gg ⊢
    refine ⟨sz 2, fun q1 hq1 => ?_⟩
    obtain ⟨a1, a2, a3⟩ := k.put ee h2 gg cp hq1
    exact ⟨p, ws, _, rfl, rfl, a1, small1000 (by rw [a2]; decide), kk _ _ ⟨p, _, _, _, _, _, _, _, _, _, _, _, _, rfl, a3⟩⟩
  · rintro D σ H1 ⟨p, ws, y0, y1, y2, y3, y5, y6, y7, y8, y9, y10, y11, rfl, k⟩ kk
    exact ⟨_, rfl, kk _ _ (q _ p ws k.e k.n k.l k.c)⟩
end
end V


set_option Elab.async false
set_option linter.all false
set_option maxRecDepth 100000
set_option maxHeartbeats 4000000
namespace V
open PySem PySem.Spec PyProof.Rows L2 Evl TL NumText
theorem op_in_seqK {X : Cx} {K : PySem.W.Frag} (hK : X.K = K) : OpR X (compareOp .In) (rIn K false) := by
  subst hK
  exact op_in_seq
theorem rg_ints (n : Nat) : rgV 0 (n : Int) = intsV (List.range n) := by
  unfold rgV intsV
  rw [show ((n : Int) - 0).toNat = n by omega]
  refine List.map_congr_left fun i _ => ?_
  rw [Int.zero_add]
/-- each place leads to each other one, numbered as they are come to -/
def ringF (bs : List (Nat × Tm)) : Bool := decide (metF (leadsF bs) 0 = List.range bs.length) && (List.range bs.length).all fun p => decide (0 ∈ metF (leadsF bs) p)
def spRing (K : PySem.W.Frag) : Sp := fun vs H Q _ => ∃ (a : Addr) (xs : List V) (bs : List (Nat × Tm)), vs = [.ref a] ∧ SeqAt' K H a xs ∧ BodsAt H xs bs ∧ 0 < bs.length ∧ bs.length ≤ 100 ∧ (∀ x ∈ bs, x.2.Ok 11 ∧ x.2.deep ≤ 8 ∧ x.2.size ≤ 1000) ∧
  (∀ x ∈ bs, ∀ p ∈ x.2.places, p < bs.length) ∧ ∀ (H' : Hp), Ex H H' → Q (.bl (ringF bs)) H'
end V


set_option Elab.async false
set_option linter.all false
set_option maxRecDepth 100000
set_option maxHeartbeats 4000000
namespace V
open PySem PySem.Spec PyProof.Rows L2 Evl TL NumText
def spOrder : Sp := fun vs H Q _ => ∃ (b : Addr) (n size : Nat), vs = [.ref b, .int (size : Int)] ∧ Box H b (n + size) ∧ size ≤ 100 ∧
  ∀ (H' : Hp) (p : Addr) (o : List Nat), But b H H' → Box H' b n → H p = none → H' p = some (.lst (intsV o)) → Ord o size → Q (.ref p) H'
theorem ints_erase (l : List Nat) (j : Nat) : (intsV l).eraseIdx j = intsV (l.eraseIdx j) := by
  induction l generalizing j with
  | nil => rfl
  | cons x l ih =>
    cases j with
    | zero => rfl
    | succ j => exact congrArg (V.int (x : Int) :: ·) (ih j)
theorem erase_perm {α : Type} : ∀ {l : List α} {j : Nat} (h : j < l.length), (l[j] :: l.eraseIdx j).Perm l
  | x :: l, 0, _ => List.Perm.refl _
  | x :: l, j + 1, h => (List.Perm.swap x (l[j]'(Nat.lt_of_succ_lt_succ h)) (l.eraseIdx j)).trans (List.Perm.cons x (erase_perm (Nat.lt_of_succ_lt_succ h)))
section
variable {P : Program} {w : World} {K : PySem.W.Frag} {mg : Str → Option Value} {base : Heap}
theorem ok_order (T : Txt K w mg) (G__law_take : Cal P w K mg base 1 "_law_take" ["box", "size"] spTake) : Cal P w K mg base 2 "_law_order" ["box", "size"] spOrder := by
  refine T.D__law_order.cal sc__law_order (fun vs H Q E h => ?_) (fun f cdv A outer s H vs Q E hr h => ?_)
  · obtain ⟨b, n, size, rfl, _⟩ := h
    rfl
  obtain ⟨b, n, size, rfl, hB, hs, q⟩ := h
  refine ⟨_, (pss_cons (ps_par (i := 2) (j := 3) rfl sc__law_order.nd rfl rfl (by decide) rfl rfl (pa_cons (pe_listRg rfl rfl T.z_list (prg_1 rfl T.z_range (pv 1))) (pa_cons (pe_lst pa_nil) pa_nil)) rfl)
  (pss_cons (ps_for PassesOwn.never rfl (pi_range1 rfl T.z_range (pa_cons (pv 1) pa_nil)) (pg_name (i := 4) sc__law_order.nd rfl (.inl rfl))
    (pss_one (ps_expr (pe_bm PySem.F.plainAttrs_list PySem.F.slot_list_append PySem.F.type_list_append mt_append (pv 3) (pa_cons (pe_bm PySem.F.plainAttrs_list PySem.F.slot_list_pop PySem.F.type_list_pop mt_popAt (pv 2) (pa_cons (pe_fn G__law_take hr (by omega) (pa_cons (pv 0) (pa_cons (pe_bi call_len_seq T.z_len (pa_cons (pv 2) pa_nil)) pa_nil))) pa_nil)) pa_nil)))))
  (pss_one (ps_ret (pv 3))))), ?_⟩
  refine ⟨_, rfl, (size : Int), rfl, RgOk.of_le (by omega) (by omega) (by omega) (by omega), fun Lp hL => ?_⟩
  have f1 := Ex.new (o := .lst (rgV 0 (size : Int))) hL
  have h1 : (upd H Lp (.lst (rgV 0 (size : Int)))) Lp = some (.lst (intsV (List.range size))) := by rw [upd_same, rg_ints]
  have nLb := hB.ne hL
  generalize upd H Lp (.lst (rgV 0 (size : Int))) = H1 at f1 h1 ⊢
  refine ⟨sz 0, fun Fp hF => ⟨_, _, rfl, ?_⟩⟩
  have f2 := Ex.new (o := .lst []) hF
  have nFb := (hB.ex f1).ne hF
  have nLF : Lp ≠ Fp := fun z => by rw [← z, h1] at hF; cases hF
  have hFH : H Fp = none := fresh_back f1 hF
  refine ⟨_, rfl, (size : Int), rfl, by omega, by omega, ?_⟩
  refine for_range (n := size) (fun i σ H' => ∃ y4 : Option V, σ = [some (.ref b), some (.int (size : Int)), some (.ref Lp), some (.ref Fp), y4] ∧ But b H H' ∧ Box H' b (n + (size - i)) ∧ ∃ l o : List Nat, H' Lp = some (.lst (intsV l)) ∧ H' Fp = some (.lst (intsV o)) ∧ o.length = i ∧ l.length + i = size ∧ (l ++ o).Nodup ∧ ∀ x ∈ l ++ o, x < size)
    ⟨none, rfl, But.of (f1.trans f2), hB.ex (f1.trans f2), List.range size, [], f2 _ _ h1, upd_same, rfl, by rw [List.length_range]; rfl, by rw [List.append_nil]; exact List.nodup_range, fun x hx => by rw [List.append_nil] at hx; exact List.mem_range.mp hx⟩ ?_ ?_
  · rintro i σ H2 hi ⟨y4, rfl, u2, B2, l, o, hl, ho, lo, ll, nd, lt⟩
    rw [show n + (size - i) = n + (size - (i + 1)) + 1 by omega] at B2
    have li : (intsV l).length = l.length := List.length_map ..
    refine ⟨_, rfl, .inl ⟨rfl, _, SqL.of ho⟩, _, rfl, .inl ⟨rfl, _, SqL.of hl⟩, _, rfl, _, rfl, Lp, _, rfl, .inl (SqL.of hl), b, ((intsV l).length : Int), _, rfl, by omega, by omega, B2, fun H3 r u3 B3 r0 r1 => ?_⟩
    obtain ⟨j, rfl⟩ := Int.eq_ofNat_of_zero_le r0
    have jl : j < l.length := by omega
    have hl3 := u3 _ _ nLb hl
    have ho3 := u3 _ _ nFb ho
    have gj : (intsV l)[j]? = some (.int ((l[j] : Nat) : Int)) := by
      unfold intsV
      rw [List.getElem?_map, List.getElem?_eq_getElem jl]
      rfl
    refine ⟨Lp, _, (j : Int), j, _, rfl, rfl, hl3, by omega, by omega, ?_, gj, ?_⟩
    · exact (ixN_seq (ixN_of (by rw [li]; exact jl))).1
    rw [ints_erase]
    have ho4 : (upd H3 Lp (.lst (intsV (l.eraseIdx j)))) Fp = some (.lst (intsV o)) := by rw [upd_ne nLF.symm]; exact ho3
    have le : (l.eraseIdx j).length = l.length - 1 := List.length_eraseIdx_of_lt jl
    have pm : (l.eraseIdx j ++ (o ++ [l[j]])).Perm (l ++ o) := by
      have e := erase_perm jl
      have a : (l.eraseIdx j ++ (o ++ [l[j]])).Perm (l[j] :: (l.eraseIdx j ++ o)) := by
        rw [← List.append_assoc]
        exact List.perm_append_singleton _ _
      exact a.trans (List.Perm.append_right o e)
    refine ⟨Fp, _, _, rfl, rfl, ho4, ?_, _, rfl, ?_, ?_, l.eraseIdx j, o ++ [l[j]], ?_, ?_, by rw [List.length_append, lo]; rfl, by rw [le]; omega, pm.symm.nodup nd, fun x hx => lt x (pm.mem_iff.mp hx)⟩
    · rw [show (intsV o).length = o.length from List.length_map ..]
      exact small1000 (by omega)
    · exact But.on2 hFH (But.on hL u2 u3)
    · exact (B3.on nLb).on nFb
    · rw [upd_ne nLF, upd_same]
    · rw [upd_same]
      unfold intsV
      rw [List.map_append]
      rfl
  · rintro σ H2 ⟨y4, rfl, u2, B2, l, o, hl, ho, lo, ll, nd, lt⟩
    have l0 : l = [] := List.length_eq_zero_iff.mp (by omega)
    subst l0
    exact ⟨_, rfl, q H2 Fp o u2 (B2.less (Nat.le_add_right _ _)) hFH ho ⟨lo, lt, nd⟩⟩
end
end V


set_option Elab.async false
set_option linter.all false
set_option maxRecDepth 100000
set_option maxHeartbeats 4000000
namespace V
open PySem PySem.Spec PyProof.Rows L2 PySem.StrLaws
open Builtin.Str (occurrences subAt)
/-! ### where a sign stands first -/
theorem occ_stay (s sub : Str) (hi : Nat) : ∀ (l : List Nat) (st : Array Nat × Nat), 1 ≤ st.1.size → (forIn l st (occBody s sub hi 1)).run.1 = st.1
  | [], st, _ => by simp
  | a :: l, st, h => by
    rw [List.forIn_cons]
    unfold occBody
    rw [if_neg (fun z => by have := z.1.1.1; omega)]
    exact occ_stay s sub hi l _ h
theorem occ_first (s sub : Str) (hi j : Nat) (post : List Nat) (hj : j + sub.length ≤ hi ∧ subAt s sub j = true) : ∀ (pre : List Nat) (free : Nat), (∀ i ∈ pre, free ≤ i) → free ≤ j → (∀ i ∈ pre, ¬ (i + sub.length ≤ hi ∧ subAt s sub i = true)) →
    (forIn (pre ++ j :: post) ((#[] : Array Nat), free) (occBody s sub hi 1)).run.1 = #[j]
  | [], free, _, hf, _ => by
    rw [List.nil_append, List.forIn_cons]
    unfold occBody
    rw [if_pos ⟨⟨⟨by simp, hf⟩, hj.1⟩, hj.2⟩]
    exact occ_stay s sub hi post _ (by simp)
  | a :: pre, free, h1, hf, h2 => by
    rw [List.cons_append, List.forIn_cons]
    unfold occBody
    rw [if_neg fun z => h2 a (List.mem_cons_self ..) ⟨z.1.2, z.2⟩]
    exact occ_first s sub hi j post hj pre free (fun i hi' => h1 i (List.mem_cons_of_mem _ hi')) hf fun i hi' => h2 i (List.mem_cons_of_mem _ hi')
theorem idx_one {x : Str} {c j : Nat} (h : x.cps.toList[j]? = some c) (no : ∀ k, k < j → x.cps.toList[k]? ≠ some c) : occurrences x ⟨#[c]⟩ 0 x.length 1 = [j] := by
  have jl : j < x.length := by
    have := (List.getElem?_eq_some_iff.mp h).1
    simpa [Str.length] using this
  rw [occ_eq]
  have e : List.range' 0 (x.length + 1 - 0) = List.range' 0 j ++ j :: List.range' (j + 1) (x.length - j) := by
    rw [show x.length + 1 - 0 = j + (1 + (x.length - j)) by omega, ← List.range'_append_1, Nat.zero_add, ← List.range'_append_1]
    rfl
  rw [e, occ_first x ⟨#[c]⟩ x.length j _ ((subAt_one x c j).mpr h) _ 0 (fun _ _ => Nat.zero_le _) (Nat.zero_le _) fun i hi z => ?_]
  refine no i ?_ ((subAt_one x c i).mp z)
  have := (List.mem_range'_1.mp hi).2
  omega
end V


set_option Elab.async false
set_option linter.all false
set_option maxRecDepth 100000
set_option maxHeartbeats 4000000
namespace V
open PySem PySem.Spec PyProof.Rows L2 Evl TL NumText
def spRight9 : Sp := fun vs H Q _ => ∃ (b : Addr) (n : Nat), vs = [.ref b] ∧ Box H b (n + 1000) ∧ ∀ (H' : Hp), But b H H' → Box H' b n → Q (.bl true) H'
theorem placeIn_before {o : List Nat} {x m y : Nat} (hm : m < placeIn o x) (hy : o[m]? = some y) : y ≠ x := fun z => by
  have h := List.not_of_lt_findIdx (p := fun y => decide (y = x)) (xs := o) hm
  have e : o[m]'(Nat.lt_of_lt_of_le hm List.findIdx_le_length) = y := by
    have := List.getElem?_eq_getElem (l := o) (i := m) (Nat.lt_of_lt_of_le hm List.findIdx_le_length)
    rw [hy] at this
    exact (Option.some.inj this).symm
  rw [e] at h
  simp [z] at h
theorem first_ok {g : Nat → Nat} {n i : Nat} (hi : i < n) : ((List.range n).findIdx fun j => decide (g j = g i)) < n ∧ g ((List.range n).findIdx fun j => decide (g j = g i)) = g i ∧ ∀ m, m < ((List.range n).findIdx fun j => decide (g j = g i)) → g m ≠ g i := by
  have l : ((List.range n).findIdx fun j => decide (g j = g i)) < (List.range n).length := List.findIdx_lt_length_of_exists ⟨i, List.mem_range.mpr hi, decide_eq_true rfl⟩
  have e := List.findIdx_getElem (p := fun j => decide (g j = g i)) (xs := List.range n) (w := l)
  rw [List.getElem_range] at e
  rw [List.length_range] at l
  refine ⟨l, of_decide_eq_true e, fun m hm z => ?_⟩
  have h := List.not_of_lt_findIdx (p := fun j => decide (g j = g i)) (xs := List.range n) hm
  rw [List.getElem_range] at h
  simp [z] at h
theorem known9_ne : ∀ c ∈ known9, c.1 ≠ [] := by decide +kernel
theorem BodsAt.notBox {H : Hp} {l b : Addr} {xs : List V} {bs : Bds} {n : Nat} (g : BodsAt H xs bs) (ne : bs ≠ []) (hl : H l = some (.lst xs)) (hB : Box H b n) : l ≠ b := fun z => by
  obtain ⟨x, y, w, e, _⟩ := hB
  rw [z, e] at hl
  cases hl
  cases g with
  | cons h _ =>
    obtain ⟨p, tv, h1, _⟩ := h
    cases h1
section
variable {P : Program} {w : World} {K : PySem.W.Frag} {mg : Str → Option Value} {base : Heap}
theorem ok_right9 (T : Txt K w mg) (G__law_known : Cal P w K mg base 1 "_law_known" [] spKnown9) (G__law_order : Cal P w K mg base 2 "_law_order" ["box", "size"] spOrder) (G__law_spots : Cal P w K mg base 9 "_law_spots" ["term"] (spPlaces 8))
    (G__law_placed : Cal P w K mg base 9 "_law_placed" ["term", "places"] (spPlaced 8)) (G_saying : Cal P w K mg base 14 "saying" ["bodies"] (spSay K)) : Cal P w K mg base 15 "_law_right" ["box"] spRight9 := by
  refine T.D__law_right.cal sc__law_right (fun vs H Q E h => ?_) (fun f cdv A outer s H vs Q E hr h => ?_)
  · obtain ⟨b, n, rfl, _⟩ := h
    rfl
  obtain ⟨b, n, rfl, hB, q⟩ := h
  refine ⟨_, (pss_cons (ps_for PassesOwn.never rfl (pi_list (pe_fn0 G__law_known hr (by omega))) (pg_tup rfl (pgs_cons (pg_name (i := 1) sc__law_right.nd rfl (.inl rfl)) (pgs_cons (pg_name (i := 2) sc__law_right.nd rfl (.inr rfl)) pgs_nil)))
    (pss_cons (ps_set (i := 3) sc__law_right.nd rfl (.inr rfl) (pe_fn G__law_order hr (by omega) (pa_cons (pv 0) (pa_cons (pe_bi call_len_seq T.z_len (pa_cons (pv 1) pa_nil)) pa_nil))))
    (pss_cons (ps_asg (pe_tup (pa_cons (pe_lst pa_nil) (pa_cons (pe_join pe_str (pe_lc (own := [("old", 6)]) (g := (gName 6)) (tt := tYes) rfl sc__law_right.nd (pi_list (pv 3)) (blkOk_by (N := N__law_right) (sc := defScope s__law_right) (by decide +kernel)) (fun _ _ _ _ _ => (pg_name (i := 6) sc__law_right.nd rfl (.inl rfl))) (fun _ _ _ _ _ => pts_nil) (fun _ _ _ _ _ => (pe_ix ix_str (pv 2) (pv 6) (fun _ _ => rfl))))) pa_nil))) (pg_tup rfl (pgs_cons (pg_name (i := 4) sc__law_right.nd rfl (.inl rfl)) (pgs_cons (pg_name (i := 5) sc__law_right.nd rfl (.inr rfl)) pgs_nil))))
    (pss_cons (ps_for PassesOwn.never rfl (pi_list (pv 3)) (pg_name (i := 6) sc__law_right.nd rfl (.inl rfl))
      (pss_cons (ps_asg (pe_ix (r := rIxL K) ix_list (pv 1) (pv 6) (fun _ _ => rfl)) (pg_tup rfl (pgs_cons (pg_name (i := 7) sc__law_right.nd rfl (.inl rfl)) (pgs_cons (pg_name (i := 8) sc__law_right.nd rfl (.inl rfl)) pgs_nil))))
      (pss_one (ps_expr (pe_bm PySem.F.plainAttrs_list PySem.F.slot_list_append PySem.F.type_list_append mt_append (pv 4) (pa_cons (pe_tup (pa_cons (pv 7) (pa_cons (pe_fn G__law_placed hr (by omega) (pa_cons (pv 8) (pa_cons (pe_lc (own := [("spot", 10)]) (g := (gName 10)) (tt := tYes) rfl sc__law_right.nd (pi_list (pe_fn G__law_spots hr (by omega) (pa_cons (pv 8) pa_nil))) (blkOk_by (N := N__law_right) (sc := defScope s__law_right) (by decide +kernel)) (fun _ _ _ _ _ => (pg_name (i := 10) sc__law_right.nd rfl (.inl rfl))) (fun _ _ _ _ _ => pts_nil) (fun _ _ _ _ _ => (pe_bmK (K := K) rfl PySem.F.plainAttrs_list PySem.F.slot_list_index PySem.F.type_list_index (mt_indexK (K := K) rfl) (pv 3) (pa_cons (pv 10) pa_nil)))) pa_nil))) pa_nil))) pa_nil))))))
    (pss_cons (ps_set (i := 9) sc__law_right.nd rfl (.inr rfl) (pe_fn G_saying hr (by omega) (pa_cons (pv 4) pa_nil)))
    (pss_cons (ps_if (pt_cmpR (op_neD hr.units) (pe_lc (own := [("number", 11)]) (g := (gName 11)) (tt := tYes) rfl sc__law_right.nd (pi_list (pv 9)) (blkOk_by (N := N__law_right) (sc := defScope s__law_right) (by decide +kernel)) (fun _ _ _ _ _ => (pg_name (i := 11) sc__law_right.nd rfl (.inl rfl))) (fun _ _ _ _ _ => pts_nil) (fun _ _ _ _ _ => (pe_bmK (K := K) rfl PySem.F.plainAttrs_list PySem.F.slot_list_index PySem.F.type_list_index (mt_indexK (K := K) rfl) (pv 9) (pa_cons (pv 11) pa_nil)))) (pe_lc (own := [("letter", 12)]) (g := (gName 12)) (tt := tYes) rfl sc__law_right.nd (pi_str (pv 5)) (blkOk_by (N := N__law_right) (sc := defScope s__law_right) (by decide +kernel)) (fun _ _ _ _ _ => (pg_name (i := 12) sc__law_right.nd rfl (.inl rfl))) (fun _ _ _ _ _ => pts_nil) (fun _ _ _ _ _ => (pe_bmK (K := K) rfl PySem.F.plainAttrs_str PySem.F.slot_str_index PySem.F.type_str_index mt_sindex (pv 5) (pa_cons (pv 12) pa_nil)))) (nomark _))
      (pss_one (ps_ret pe_bl))
      pss_nil)
    (pss_one (ps_if (pt_not (pt_val (pe_bi (cr_all rfl) T.z_all (pa_cons (pe_lc (own := [("at", 13), ("number", 11)]) (g := (gTup K 2 (gCons (gName 13) (gCons (gName 11) gNil)))) (tt := tYes) rfl sc__law_right.nd (pi_enum rfl T.z_enumerate (pa_cons (pv 9) pa_nil)) (blkOk_by (N := N__law_right) (sc := defScope s__law_right) (by decide +kernel)) (fun _ _ _ _ _ => (pg_tup rfl (pgs_cons (pg_name (i := 13) sc__law_right.nd rfl (.inl rfl)) (pgs_cons (pg_name (i := 11) sc__law_right.nd rfl (.inl rfl)) pgs_nil)))) (fun _ _ _ _ _ => pts_nil) (fun _ _ _ _ _ => (pe_chain op_le op_le pe_int (pv 11) (pe_op op_add (pe_bi (cr_maxK (K := K) rfl rfl) T.z_max (pa_cons (pe_op op_cat (pe_lst (pa_cons (pe_un un_neg pe_int) pa_nil)) (pe_slice (sl_listK (K := K) rfl) (pv 9) po_none (po_some (pv 13)))) pa_nil)) pe_int)))) pa_nil))))
      (pss_one (ps_ret pe_bl))
      pss_nil))))))))
  (pss_one (ps_ret pe_bl))), ?_⟩
  refine ⟨rfl, fun H1 kp ws e1 hkp hws cases => ⟨kp, rfl, ⟨_, SqL.of hws⟩, ?_⟩⟩
  have nkb := hB.ne hkp
  have B1 := hB.ex e1
  have lws : ws.length = 11 := cases.len
  refine for_list (xs := ws) (fun i σ H' => ∃ y1 y2 y3 y4 y5 y6 y7 y8 y9 : Option V, σ = [some (.ref b), y1, y2, y3, y4, y5, y6, y7, y8, y9, none, none, none, none] ∧ But b H1 H' ∧ Box H' b (n + (1000 - 12 * i)))
    ⟨none, none, none, none, none, none, none, none, none, rfl, But.refl b H1, B1⟩ (fun i σ H' _ ⟨_, _, _, _, _, _, _, _, _, _, u, _⟩ => SqL.of (u _ _ nkb hws)) ?_ ?_
  · rintro i x σ H2 hi ⟨y1, y2, y3, y4, y5, y6, y7, y8, y9, rfl, u2, B2⟩
    obtain ⟨⟨bs, lt⟩, hc, hcase⟩ := cases.get hi
    have il : i < 11 := by rw [← lws]; exact (List.getElem?_eq_some_iff.mp hi).1
    have mem := List.mem_of_getElem? hc
    obtain ⟨a, l, xs, rfl, ha, hl, g, _⟩ := hcase
    obtain ⟨l12, elt⟩ := known9_ok _ mem
    have oks := known9_all _ mem
    simp only at ha g l12 elt oks
    have okk : ∀ x ∈ bs, x.2.Ok 11 ∧ x.2.deep ≤ 8 ∧ x.2.size ≤ 1000 := fun x hx => ⟨okB_ok _ (oks x hx).1, (oks x hx).2.1, (oks x hx).2.2.1⟩
    have okp : ∀ x ∈ bs, ∀ p ∈ x.2.places, p < bs.length := fun x hx => (oks x hx).2.2.2
    have ne0 : bs ≠ [] := known9_ne _ mem
    have lx := g.len
    have nlb : l ≠ b := g.notBox ne0 hl B1
    have tu2 := B1.tu u2
    have ha2 := tu2 _ _ ha
    have hl2 := u2 _ _ nlb hl
    have g2 := g.tu tu2
    refine ⟨a, _, rfl, SqT.of ha2, rfl, _, _, rfl, _, _, rfl, rfl, ?_⟩
    have step : n + (1000 - 12 * i) = n + (1000 - 12 * (i + 1)) + 12 := by omega
    rw [step] at B2
    generalize hm0 : n + (1000 - 12 * (i + 1)) = m0 at B2
    refine ⟨_, rfl, _, rfl, l, xs, rfl, .inl (SqL.of hl2), b, m0, xs.length, rfl, B2.less (by omega), by omega, fun H3 op o u3 B3 hop ho Or => ?_⟩
    rw [lx] at Or
    have nob := B2.ne hop
    have hl3 := u3 _ _ nlb hl2
    have g3 := g2.tu (B2.tu u3)
    have lo := Or.len
    refine ⟨sz 0, fun mp hmp => ?_⟩
    have f1 := Ex.new (o := .lst []) hmp
    have hm4 : (upd H3 mp (.lst [])) mp = some (.lst []) := upd_same
    have nmb := B3.ne hmp
    generalize upd H3 mp (.lst []) = H4 at f1 hm4 ⊢
    have ho4 := f1 _ _ ho
    refine ⟨⟨_, rfl⟩, _, rfl, op, rfl, ⟨_, SqL.of ho4⟩, fun Dl hD => ?_⟩
    let G : Nat → Nat := gAt (sayIt bs bs.length)
    have lS : (sayIt bs bs.length).length = bs.length := say_len bs _
    have sign : ∀ x, x < bs.length → lt.cps.toList[x]? = some (G x + 97) := fun x hx => by
      rw [elt]
      show ((sayIt bs bs.length).map (· + 97)).toArray.toList[x]? = _
      rw [List.toList_toArray, List.getElem?_map, List.getElem?_eq_getElem (by omega)]
      show some (_ + 97) = some (G x + 97)
      show _ = some (((sayIt bs bs.length).getD x 0) + 97)
      rw [List.getD_eq_getElem?_getD, List.getElem?_eq_getElem (by omega)]
      rfl
    refine lc_list (xs := intsV o) (fun j H5 => Ex H4 H5 ∧ H5 Dl = some (.lst ((ones ((o.take j).map fun x => G x + 97)).map V.str))) ⟨Ex.new hD, upd_same⟩ (fun j H5 _ z => SqL.of (z.1 _ _ ho4)) ?_ ?_
    · rintro j x H5 hj ⟨e5, h5⟩
      obtain ⟨ov, hov, rfl⟩ := intsV_get hj
      have ovl := Or.lt ov (List.mem_of_getElem? hov)
      refine ⟨rfl, yes ⟨_, rfl, _, rfl, lt, _, G ov + 97, rfl, rfl, ?_, atI_nat (sign ov ovl), _, h5, ?_, Ex.mut e5 hD, ?_⟩⟩
      · have e : lt.length = bs.length := by
          rw [elt]
          show ((sayIt bs bs.length).map (· + 97)).toArray.size = _
          rw [List.size_toArray, List.length_map, lS]
        exact small1000' (by omega)
      · rw [List.length_map, ones, List.length_map, List.length_map, List.length_take]
        exact small1000 (by omega)
      · rw [upd_same, take_more hov, List.map_append]
        unfold ones
        rw [List.map_append, List.map_append]
        rfl
    · rintro H5 ⟨e5, h5⟩
      rw [show (intsV o).length = o.length from List.length_map .., List.take_length] at h5
      have lc : (o.map fun x => G x + 97).length = bs.length := by rw [List.length_map, lo]
      refine ⟨"", Dl, ones (o.map fun x => G x + 97), rfl, rfl, .inl (SqL.of h5), ?_, ?_⟩
      · rw [ones_sum, show ("" : Str).length = 0 by decide +kernel]
        omega
      rw [join_eq]
      have codes : (Str.join "" (ones (o.map fun x => G x + 97))).cps.toList = o.map fun x => G x + 97 := tl_ones _
      generalize Str.join "" (ones (o.map fun x => G x + 97)) = nm at codes ⊢
      refine ⟨sz 2, fun pp hpp => ?_⟩
      have f2 := Ex.new (o := .tup [V.ref mp, .str nm]) hpp
      have hpp6 : (upd H5 pp (.tup [V.ref mp, .str nm])) pp = some (.tup [V.ref mp, .str nm]) := upd_same
      have e36 := f1.trans (e5.trans f2)
      have hm6 := (e5.trans f2) _ _ hm4
      generalize upd H5 pp (.tup [V.ref mp, .str nm]) = H6 at f2 hpp6 e36 hm6 ⊢
      refine ⟨pp, _, rfl, SqT.of hpp6, rfl, _, _, rfl, _, _, rfl, rfl, ?_⟩
      have ho6 := e36 _ _ ho
      have hl6 := e36 _ _ hl3
      have g6 := g3.ex e36
      have hmH3 : H3 mp = none := hmp
      refine ⟨_, rfl, op, rfl, ⟨_, SqL.of ho6⟩, ?_⟩
      refine for_list (xs := intsV o) (fun j σ H' => ∃ y6 y7 y8 : Option V, σ = [some (.ref b), some (.ref l), some (.str lt), some (.ref op), some (.ref mp), some (.str nm), y6, y7, y8, y9, none, none, none, none] ∧ Ex H3 H' ∧ ∃ vs, H' mp = some (.lst vs) ∧ BodsAt H' vs ((movedB bs o).take j))
        ⟨y6, y7, y8, rfl, e36, [], hm6, .nil⟩ (fun j σ H' _ ⟨_, _, _, _, z, _⟩ => SqL.of (z _ _ ho)) ?_ ?_
      · rintro j x σ H7 hj ⟨y6, y7, y8, rfl, e7, vs, h7, g7⟩
        obtain ⟨ov, hov, rfl⟩ := intsV_get hj
        have ovl := Or.lt ov (List.mem_of_getElem? hov)
        obtain ⟨vb, hvb⟩ : ∃ vb, xs[ov]? = some vb := ⟨_, List.getElem?_eq_getElem (by omega)⟩
        obtain ⟨y, hy, hbod⟩ := (g3.ex e7).get hvb
        obtain ⟨bp, tv, rfl, hbp, gt⟩ := hbod
        obtain ⟨o1, o2, o3⟩ := okk y (List.mem_of_getElem? hy)
        have pl := places_len y.2
        refine ⟨_, rfl, _, rfl, l, xs, (ov : Int), .ref bp, rfl, rfl, SqL.of (e7 _ _ hl3), atI_nat hvb, bp, _, rfl, SqT.of hbp, rfl, _, _, rfl, _, _, rfl, rfl, ?_⟩
        refine ⟨_, rfl, .inl ⟨rfl, _, SqL.of h7⟩, _, rfl, _, rfl, _, rfl, tv, y.2, 11, rfl, gt, o1, o2, o3, fun H8 sp hsp e8 h8 => ⟨sp, rfl, ⟨_, SqL.of h8⟩, fun Dq hDq => ?_⟩⟩
        have ho8 := (e7.trans e8) _ _ ho
        have ffl : (intsV o).all flatV = true := flat_ints o
        refine lc_list (xs := y.2.places.map fun k : Nat => V.int (k : Int)) (fun k H9 => Ex H8 H9 ∧ H9 Dq = some (.lst (intsV ((y.2.places.take k).map (placeIn o))))) ⟨Ex.new hDq, upd_same⟩ (fun k H9 _ z => SqL.of (z.1 _ _ h8)) ?_ ?_
        · rintro k x H9 hk ⟨e9, h9⟩
          obtain ⟨sv, hsv, rfl⟩ : ∃ sv : Nat, y.2.places[k]? = some sv ∧ x = .int (sv : Int) := intsV_get (cs := y.2.places) hk
          have svo := Or.mem (okp y (List.mem_of_getElem? hy) sv (List.mem_of_getElem? hsv))
          refine ⟨rfl, yes ⟨_, rfl, .inl ⟨rfl, _, SqL.of (e9 _ _ ho8)⟩, _, rfl, op, intsV o, .int (sv : Int), placeIn o sv, .int (sv : Int), rfl, rfl, SqL.of (e9 _ _ ho8), rfl, ffl, ?_, ?_, ?_, _, h9, ?_, Ex.mut e9 hDq, ?_⟩⟩
          · unfold intsV
            rw [List.getElem?_map, placeIn_get svo]
            rfl
          · exact beq_self_eq_true (sv : Int)
          · intro m z' hm hz
            obtain ⟨yv, hyv, rfl⟩ := intsV_get hz
            have := placeIn_before hm hyv
            exact beq_eq_false_iff_ne.mpr fun z => this (by omega)
          · rw [show (intsV ((y.2.places.take k).map (placeIn o))).length = _ from List.length_map .., List.length_map, List.length_take]
            exact small1000 (by omega)
          · rw [upd_same, take_more hsv, List.map_append]
            unfold intsV
            rw [List.map_append]
            rfl
        · rintro H9 ⟨e9, h9⟩
          rw [show (y.2.places.map fun k : Nat => V.int (k : Int)).length = y.2.places.length from List.length_map .., List.take_length] at h9
          have e79 := e8.trans e9
          have nDm : Dq ≠ mp := (neN (e8 _ _ h7) hDq).symm
          refine ⟨tv, y.2, Dq, y.2.places.map (placeIn o), rfl, gt.ex e79, o1.weak (by decide), o2, h9, by rw [List.length_map]; exact Nat.le_refl _, by rw [List.length_map]; omega, fun H10 v' u10 h10 g10 => ⟨sz 2, fun p4 hp4 => ?_⟩⟩
          have f4 := Ex.new (o := .tup [.int (y.1 : Int), v']) hp4
          have e810 : Ex H8 (upd H10 p4 (.tup [.int (y.1 : Int), v'])) := fun c ob hc => f4 c ob (u10 c ob (fun z => by rw [z, hDq] at hc; cases hc) (e9 c ob hc))
          have e710 := e8.trans e810
          have h710 := e710 _ _ h7
          have tu : Tu (upd H10 p4 (.tup [.int (y.1 : Int), v'])) (upd (upd H10 p4 (.tup [.int (y.1 : Int), v'])) mp (.lst (vs ++ [.ref p4]))) := (But.upd (But.refl mp _)).tu h710
          obtain ⟨y', hy', hmv⟩ := moved_get Or hov
          rw [hy] at hy'
          cases hy'
          have lv := g7.len
          rw [List.length_take, moved_len] at lv
          refine ⟨mp, vs, _, rfl, rfl, h710, small1000 (by omega), _, _, _, rfl, Ex.mut (e7.trans e710) hmH3, vs ++ [.ref p4], upd_same, ?_⟩
          rw [take_more hmv]
          exact ((g7.ex e710).tu tu).app (.cons ⟨p4, v', rfl, tu _ _ upd_same, (g10.ex f4).tu tu⟩ .nil)
      · rintro σ H7 ⟨y6, y7, y8, rfl, e7, vs, h7, g7⟩
        rw [show (intsV o).length = o.length from List.length_map .., ← moved_len (bs := bs), List.take_length] at g7
        obtain ⟨okm, okpm⟩ := moved_ok Or l12 okk okp
        obtain ⟨N, hN, hk⟩ := say_stops okpm
        have lm : (movedB bs o).length = bs.length := by rw [moved_len, lo]
        refine ⟨_, rfl, mp, vs, movedB bs o, N, rfl, .inl (SqL.of h7), g7, by omega, okm, okpm, fun x hx => Nat.le_trans (places_len _) (okm x hx).2.2, hN, hk, fun H8 fp hfp e8 h8 => ?_⟩
        have few := say_few okpm hk
        have keep := say_keep hN (bs.length - N)
        rw [show N + (bs.length - N) = bs.length by omega] at keep
        have fc := say_fc (bs := movedB bs o) (fun x hx => ⟨(okm x hx).1, (okm x hx).2.1⟩) N
        have same : ∀ i j x y, o[i]? = some x → o[j]? = some y → (gAt (sayIt (movedB bs o) N) i = gAt (sayIt (movedB bs o) N) j ↔ G x = G y) := fun i j x y hi hj => by
          rw [← keep]
          exact moved_say Or l12 okk okp bs.length i j x y hi hj
        have lsay : (sayIt (movedB bs o) N).length = bs.length := by rw [say_len, lm]
        generalize sayIt (movedB bs o) N = F at h8 fc same lsay
        have e38 := e7.trans e8
        have lF : (intsV F).length = F.length := List.length_map ..
        have gF : ∀ {i}, i < bs.length → F[i]? = some (gAt F i) := fun {i} hi => by
          unfold gAt
          rw [List.getD_eq_getElem?_getD, List.getElem?_eq_getElem (by omega)]
          rfl
        refine ⟨_, rfl, fp, rfl, ⟨_, SqL.of h8⟩, fun D1 hD1 => ?_⟩
        let first : Nat → Nat := fun i => (List.range bs.length).findIdx fun j => decide (gAt F j = gAt F i)
        refine lc_list (xs := intsV F) (fun k H9 => Ex H8 H9 ∧ H9 D1 = some (.lst (intsV ((List.range k).map first)))) ⟨Ex.new hD1, upd_same⟩ (fun k H9 _ z => SqL.of (z.1 _ _ h8)) ?_ ?_
        · rintro k x H9 hk2 ⟨e9, h9⟩
          obtain ⟨fv, hfv, rfl⟩ := intsV_get hk2
          have kl : k < bs.length := by rw [← lsay]; exact (List.getElem?_eq_some_iff.mp hfv).1
          rw [gF kl] at hfv
          cases hfv
          obtain ⟨a1, a2, a3⟩ := first_ok (g := gAt F) kl
          refine ⟨rfl, yes ⟨_, rfl, .inl ⟨rfl, _, SqL.of (e9 _ _ h8)⟩, _, rfl, fp, intsV F, _, first k, .int ((gAt F (first k) : Nat) : Int), rfl, rfl, SqL.of (e9 _ _ h8), rfl, flat_ints F, ?_, ?_, ?_, _, h9, ?_, Ex.mut e9 hD1, ?_⟩⟩
          · unfold intsV
            rw [List.getElem?_map, gF a1]
            rfl
          · rw [show gAt F (first k) = gAt F k from a2]
            exact beq_self_eq_true _
          · intro m z' hm hz
            obtain ⟨yv, hyv, rfl⟩ := intsV_get hz
            rw [gF (by have h1 : m < first k := hm; have h2 : first k < bs.length := a1; omega)] at hyv
            cases hyv
            have := a3 m hm
            exact beq_eq_false_iff_ne.mpr fun z => this (by omega)
          · rw [show (intsV ((List.range k).map first)).length = _ from List.length_map .., List.length_map, List.length_range]
            exact small1000 (by omega)
          · rw [upd_same, List.range_succ, List.map_append]
            unfold intsV
            rw [List.map_append]
            rfl
        · rintro H9 ⟨e9, h9⟩
          rw [lF, lsay] at h9
          have h19 := e9 _ _ h8
          have lnm : nm.cps.size = bs.length := by
            have := congrArg List.length codes
            rw [List.length_map, lo, Array.length_toList] at this
            exact this
          refine ⟨_, rfl, nm, rfl, fun D2 hD2 => ?_⟩
          have nm_at : ∀ {k : Nat} {x : Nat}, o[k]? = some x → nm.cps.toList[k]? = some (G x + 97) := fun {k x} h => by
            rw [codes, List.getElem?_map, h]
            rfl
          refine lc_it walk_str (fun k H10 => Ex H9 H10 ∧ H10 D2 = some (.lst (intsV ((List.range k).map first)))) ⟨Ex.new hD2, upd_same⟩ (fun k H10 _ _ => trivial) ?_ ?_
          · rintro k x H10 H11 hk2 ⟨e10, h10⟩ ⟨rfl, ch, hch, rfl⟩
            rw [lnm] at hk2
            obtain ⟨ov, hov⟩ : ∃ ov, o[k]? = some ov := ⟨_, List.getElem?_eq_getElem (by omega)⟩
            have hch' : nm.cps.toList[k]? = some ch := by rw [Array.getElem?_toList]; exact hch
            rw [nm_at hov] at hch'
            cases hch'
            obtain ⟨a1, a2, a3⟩ := first_ok (g := gAt F) hk2
            have fl : first k < bs.length := a1
            obtain ⟨of_, hof⟩ : ∃ of_, o[first k]? = some of_ := ⟨_, List.getElem?_eq_getElem (by omega)⟩
            have gg : G of_ = G ov := (same (first k) k of_ ov hof hov).mp a2
            have oc := idx_one (x := nm) (c := G ov + 97) (j := first k) (by rw [nm_at hof, gg]) fun m hm z => by
              have hm' : m < first k := hm
              obtain ⟨om, hom⟩ : ∃ om, o[m]? = some om := ⟨_, List.getElem?_eq_getElem (by omega)⟩
              rw [nm_at hom] at z
              have zz : G om = G ov := by
                have := Option.some.inj z
                omega
              exact a3 m hm ((same m k om ov hom hov).mpr zz)
            refine ⟨rfl, yes ⟨_, rfl, (by first | exact rfl | exact ⟨_, rfl⟩), _, rfl, nm, _, first k, [], rfl, rfl, oc, _, h10, ?_, Ex.mut e10 hD2, ?_⟩⟩
            · rw [show (intsV ((List.range k).map first)).length = _ from List.length_map .., List.length_map, List.length_range]
              exact small1000 (by omega)
            · rw [upd_same, List.range_succ, List.map_append]
              unfold intsV
              rw [List.map_append]
              rfl
          · rintro H10 ⟨e10, h10⟩
            rw [lnm] at h10
            have h910 := e10 _ _ h9
            generalize (List.range bs.length).map first = L at h910 h10
            refine ⟨intsD L, intsD L, dp_ints h910, dp_ints h10, ints_shaped L, ints_shaped L, _, rfl, ?_⟩
            rw [show PyData.eqv (intsD L) (intsD L) = decide (L = L) from ints_eqv L L, decide_eq_true rfl]
            have h18 := (e9.trans e10) _ _ h8
            refine iteF ⟨_, rfl, fp, intsV F, rfl, SqL.of h18, fun D3 hD3 => ?_⟩
            refine lc_it walk_enum (fun k H11 => Ex H10 H11 ∧ H11 D3 = some (.lst ((List.replicate k true).map V.bl))) ⟨Ex.new hD3, upd_same⟩ (fun k H11 _ z => SqL.of (z.1 _ _ h18)) ?_ ?_
            · rintro k x H11 H12 hk2 ⟨e11, h11⟩ ⟨Tp, x1, x2, rfl, hT, rfl, hx1, hx2⟩
              cases hx1
              obtain ⟨fv, hfv, rfl⟩ := intsV_get hx2
              have kl : k < bs.length := by rw [← lsay]; exact (List.getElem?_eq_some_iff.mp hfv).1
              rw [gF kl] at hfv
              cases hfv
              have f5 := Ex.new (o := .tup [V.int (k : Int), .int ((gAt F k : Nat) : Int)]) hT
              have hT12 : (upd H11 Tp (.tup [V.int (k : Int), .int ((gAt F k : Nat) : Int)])) Tp = some (.tup [V.int (k : Int), .int ((gAt F k : Nat) : Int)]) := upd_same
              have h12 := f5 _ _ h11
              generalize upd H11 Tp (.tup [V.int (k : Int), .int ((gAt F k : Nat) : Int)]) = H12 at f5 hT12 h12 ⊢
              refine ⟨Tp, _, rfl, SqT.of hT12, rfl, _, _, rfl, _, _, rfl, rfl, rfl, yes ?_⟩
              refine ⟨_, rfl, _, _, rfl, rfl, _, rfl, ?_⟩
              rw [decide_eq_true (show (0 : Int) ≤ ((gAt F k : Nat) : Int) by omega)]
              refine iteT ⟨_, rfl, sz 1, fun p1 hp1 => ?_⟩
              have f6 := Ex.new (o := .lst [V.int (-1)]) hp1
              have h61 : (upd H12 p1 (.lst [V.int (-1)])) p1 = some (.lst [V.int (-1)]) := upd_same
              have nD1 : D3 ≠ p1 := neN h12 hp1
              generalize upd H12 p1 (.lst [V.int (-1)]) = H13 at f6 h61 ⊢
              have hfp := (e11.trans (f5.trans f6)) _ _ h18
              refine ⟨_, rfl, _, rfl, (k : Int), rfl, fp, intsV F, rfl, SqL.of hfp, fun p2 hp2 => ?_⟩
              rw [cut_take]
              have f7 := Ex.new (o := .lst ((intsV F).take k)) hp2
              have h72 : (upd H13 p2 (.lst ((intsV F).take k))) p2 = some (.lst ((intsV F).take k)) := upd_same
              generalize upd H13 p2 (.lst ((intsV F).take k)) = H14 at f7 h72 ⊢
              have tk : ((intsV F).take k).length ≤ 12 := by rw [List.length_take]; omega
              refine ⟨p1, p2, _, _, rfl, rfl, f7 _ _ h61, h72, small1000' (by show 1 + ((intsV F).take k).length ≤ 1000; omega), fun p3 hp3 => ?_⟩
              have f8 := Ex.new (o := .lst ([V.int (-1)] ++ (intsV F).take k)) hp3
              have eq : [V.int (-1)] ++ (intsV F).take k = ((-1 : Int) :: (List.range k).map fun j => (gAt F j : Int)).map V.int := by
                unfold intsV
                rw [← List.map_take, take_gAt (by omega : k ≤ F.length), List.map_map, List.map_cons, List.map_map]
                rfl
              have h83 : (upd H14 p3 (.lst ([V.int (-1)] ++ (intsV F).take k))) p3 = some (.lst (((-1 : Int) :: (List.range k).map fun j => (gAt F j : Int)).map V.int)) := by rw [upd_same, eq]
              generalize upd H14 p3 (.lst ([V.int (-1)] ++ (intsV F).take k)) = H15 at f8 h83 ⊢
              refine ⟨p3, _, rfl, SqL.of h83, Nat.succ_pos _, fun z hz top => ⟨_, _, rfl, rfl, _, _, rfl, rfl, ?_⟩⟩
              have le : ((gAt F k : Nat) : Int) ≤ z + 1 := by
                rcases fc_next fc (by rw [lm]; exact kl) with ⟨j, j1, j2, _⟩ | ⟨_, nx⟩
                · have := top (gAt F j : Int) (List.mem_cons_of_mem _ (List.mem_map.mpr ⟨j, List.mem_range.mpr j1, rfl⟩))
                  rw [j2] at this
                  omega
                · have := nx z hz top
                  omega
              have e1215 := f6.trans (f7.trans f8)
              refine ⟨_, e1215 _ _ h12, ?_, Ex.mut (e11.trans (f5.trans e1215)) hD3, ?_⟩
              · rw [List.length_map, List.length_replicate]
                exact small1000 (by omega)
              · rw [upd_same, List.replicate_succ', List.map_append]
                show some (HO.lst (_ ++ [V.bl (decide (((gAt F k : Nat) : Int) ≤ z + 1))])) = _
                rw [decide_eq_true le]
                rfl
            · rintro H11 ⟨e11, h11⟩
              refine ⟨D3, List.replicate (intsV F).length true, rfl, SqL.of h11, _, rfl, ?_⟩
              rw [show (List.replicate (intsV F).length true).all id = true from List.all_eq_true.mpr fun x hx => by rw [(List.mem_replicate.mp hx).2]; rfl]
              refine iteF ⟨_, _, _, _, _, _, _, _, _, rfl, u2.trans (u3.trans (But.of (e38.trans (e9.trans (e10.trans e11))))), ?_⟩
              exact (B3.ex (e38.trans (e9.trans (e10.trans e11)))).less (by omega)
  · rintro σ H2 ⟨y1, y2, y3, y4, y5, y6, y7, y8, y9, rfl, u2, B2⟩
    exact q H2 ((But.of e1).trans u2) (B2.less (Nat.le_add_right _ _))
end
end V


set_option Elab.async false
set_option linter.all false
set_option maxRecDepth 100000
set_option maxHeartbeats 4000000
namespace V
open PySem PySem.Spec PyProof.Rows L2 Evl TL NumText
def spLaw (K : PySem.W.Frag) : Sp := fun vs H Q _ => ∃ (a : Addr) (ns : List Int), vs = [.ref a] ∧ SqL K H a (ns.map V.int) ∧ ns.length ≤ 63 ∧ ∀ H' : Hp, Q (.bl true) H'
section
variable {P : Program} {w : World} {K : PySem.W.Frag} {mg : Str → Option Value} {base : Heap}
theorem ok_law (T : Txt K w mg) {fL : Addr} {fd : FuncData} (F : FunD K "law" "law" (defArgs s_law) (defBody s_law) (defScope s_law) [] [] fL fd) (G__law_folded : Cal P w K mg base 1 "_law_folded" ["script", "size"] (spFold K))
    (G__law_box : Cal P w K mg base 1 "_law_box" ["script", "k"] (spBox K)) (G__law_right : Cal P w K mg base 15 "_law_right" ["box"] spRight9) : FnOk P w K mg base CX0 16 fL fd ["script"] (spLaw K) := by
  refine F.ok sc_law (fun vs H Q E h => ?_) (fun cdv A outer s H vs Q E hr h => ?_)
  · obtain ⟨a, ns, rfl, _⟩ := h
    rfl
  obtain ⟨a, ns, rfl, hS, hl, q⟩ := h
  have body : ∃ t, PSs (cxOf CX0 P w K mg base N_law "law" (defScope s_law) fL cdv A outer s H E).nox (defBody s_law) t ∧ t { nx := fun _ H' => Q .non H', rt := Q } (start N_law [.ref a]) H := by
    refine ⟨_, (pss_cons (ps_set (i := 1) sc_law.nd rfl (.inr rfl) (pe_fn G__law_folded hr (by omega) (pa_cons (pv 0) (pa_cons pe_int pa_nil))))
  (pss_one (ps_ret (pe_bi (cr_all rfl) T.z_all (pa_cons (pe_lc (own := [("k", 2)]) (g := (gName 2)) (tt := tYes) rfl sc_law.nd (pi_range1 rfl T.z_range (pa_cons (pe_bi (call_max2 rfl) T.z_max (pa_cons pe_int (pa_cons (pe_bi call_len_seq T.z_len (pa_cons (pv 1) pa_nil)) pa_nil))) pa_nil)) (blkOk_by (N := N_law) (sc := defScope s_law) (by decide +kernel)) (fun _ _ _ _ _ => (pg_name (i := 2) sc_law.nd rfl (.inl rfl))) (fun _ _ _ _ _ => pts_nil) (fun _ _ _ _ _ => (pe_fn G__law_right hr (by omega) (pa_cons (pe_fn G__law_box hr (by omega) (pa_cons (pv 1) (pa_cons (pv 2) pa_nil))) pa_nil)))) pa_nil))))), ?_⟩
    refine ⟨_, rfl, a, ns, 4, rfl, hS, hl, by decide, by decide, fun H1 p ms hp e1 h1 hm => ?_⟩
    refine ⟨_, rfl, p, _, rfl, .inl (SqL.of h1), ?_⟩
    have hm2 : ms.length ≤ 4 := hm
    have lm : (ms.map V.int).length = ms.length := List.length_map ..
    refine ⟨_, _, rfl, _, rfl, ?_, ?_, ?_⟩
    · split <;> omega
    · split <;> omega
    have lj : (if (((ms.map V.int).length : Nat) : Int) > 1 then (((ms.map V.int).length : Nat) : Int) else 1).toNat ≤ 4 := by
      split <;> omega
    generalize (if (((ms.map V.int).length : Nat) : Int) > 1 then (((ms.map V.int).length : Nat) : Int) else 1).toNat = m at lj
    intro Dl hD
    refine lc_range (lo := 0) (n := m) (fun j H2 => Ex H1 H2 ∧ H2 Dl = some (.lst ((List.replicate j true).map V.bl))) ⟨Ex.new hD, upd_same⟩ ?_ ?_
    · rintro j H2 hj ⟨e2, d2⟩
      refine ⟨rfl, yes ⟨_, rfl, _, rfl, p, ms, j, ?_, SqL.of (e2 _ _ h1), by omega, fun H3 b hb e3 hB => ?_⟩⟩
      · rw [Int.zero_add]
      have nDb : Dl ≠ b := fun z => by
        rw [← z, d2] at hb
        cases hb
      refine ⟨b, 1000, rfl, hB.less (by omega), fun H4 u4 B4 => ⟨_, u4 _ _ nDb (e3 _ _ d2), ?_, ?_, ?_⟩⟩
      · rw [List.length_map, List.length_replicate]
        exact small1000 (by omega)
      · refine Ex.mut (fun c o hc => u4 c o (fun z => ?_) (e3 c o (e2 c o hc))) hD
        rw [z] at hc
        rw [e2 _ _ hc] at hb
        cases hb
      · rw [upd_same, List.replicate_succ', List.map_append]
        rfl
    · rintro H2 ⟨e2, d2⟩
      refine ⟨Dl, List.replicate m true, rfl, SqL.of d2, ?_⟩
      rw [show (List.replicate m true).all id = true from List.all_eq_true.mpr fun x hx => by rw [(List.mem_replicate.mp hx).2]; rfl]
      exact q H2
  obtain ⟨t, b1, b2⟩ := body
  exact ⟨t, b1.nox, b2⟩
end
end V


set_option Elab.async false
set_option linter.all false
set_option maxRecDepth 100000
set_option maxHeartbeats 4000000
namespace V
open PySem PySem.Spec PyProof.Rows L2 Evl
section
variable {P : Program} {w : World} {K : PySem.W.Frag} {mg : Str → Option Value} {base : Heap}
theorem ok_take (D : Def K mg "_law_take" s__law_take ["box", "size"]) (zd : mg "divmod" = none) : Cal P w K mg base 1 "_law_take" ["box", "size"] spTake := by
  refine D.cal sc__law_take (fun vs H Q E h => ?_) (fun f cdv A outer s H vs Q E hr h => ?_)
  · obtain ⟨b, size, n, rfl, _⟩ := h
    rfl
  obtain ⟨b, size, n, rfl, s0, s1, hB, q⟩ := h
  obtain ⟨x, y, z, hb, x0, y0, y1, z0, z1⟩ := hB
  refine ⟨_, pss_cons (ps_if (pt_cmpR op_gt (pe_ix ix_list (pv 0) pe_int (fun _ _ => rfl)) pe_int (nomark _))
      (pss_cons (ps_asg (pe_bi call_divmod zd (pa_cons (pe_ix ix_list (pv 0) pe_int (fun _ _ => rfl)) (pa_cons (pv 1) pa_nil)))
          (pg_tup rfl (pgs_cons (pg_sub (pv 0) pe_int set_list) (pgs_cons (pg_name (i := 2) sc__law_take.nd rfl (.inl rfl)) pgs_nil))))
        (pss_one (ps_ret (pv 2)))) pss_nil)
    (pss_cons (ps_if (pt_cmpR op_gt (pv 1) (pe_op op_pow pe_int pe_int) (nomark _)) pss_never pss_nil)
    (pss_cons (ps_asg (pe_op op_add (pe_ix ix_list (pv 0) pe_int (fun _ _ => rfl)) pe_int) (pg_sub (pv 0) pe_int set_list))
    (pss_cons (ps_set (i := 3) sc__law_take.nd rfl (.inl rfl) (pe_op op_add pe_int (pe_op op_mul (pe_ix ix_list (pv 0) pe_int (fun _ _ => rfl)) (pe_ix ix_list (pv 0) pe_int (fun _ _ => rfl)))))
    (pss_cons (ps_set (i := 4) sc__law_take.nd rfl (.inl rfl) (pe_op op_mod (pe_op op_mul (pe_op op_add (pe_ix ix_list (pv 0) pe_int (fun _ _ => rfl)) (pe_op op_mul pe_int (pe_ix ix_list (pv 0) pe_int (fun _ _ => rfl)))) (pv 3)) pe_int))
    (pss_cons (ps_set (i := 5) sc__law_take.nd rfl (.inl rfl) (pe_op op_mod (pe_op op_add (pe_op op_mul (pv 4) (pe_op op_add (pe_op op_mod (pv 4) pe_int) pe_int)) (pe_ix ix_list (pv 0) pe_int (fun _ _ => rfl))) pe_int))
    (pss_one (ps_ret (pe_op op_mod (pe_op op_fdiv (pe_op op_mod (pe_op op_mul (pv 5) (pe_op op_add (pe_op op_mod (pv 5) pe_int) pe_int)) pe_int) pe_int) (pv 1))))))))), ?_⟩
  have hS : SqL K H b [.int x, .int y, .int z] := .inl (.inl hb)
  refine ⟨.ref b, rfl, b, _, 0, .int x, rfl, rfl, hS, rfl, x, 0, rfl, rfl, _, rfl, ite2 (fun c => ?_) (fun c => ?_)⟩
  · -- the number's own digits
    have hx : 0 < x := of_decide_eq_true c
    refine ⟨.ref b, rfl, b, _, 0, .int x, rfl, rfl, hS, rfl, .int size, rfl, x, size, rfl, ⟨s0, by omega⟩, fun p hp => ?_⟩
    have hbp : b ≠ p := ne_of_none hb hp
    have hb1 : (upd H p (.tup [.int (x / size), .int (x % size)])) b = some (.lst [.int x, .int y, .int z]) := by
      rw [upd_ne hbp]
      exact hb
    refine ⟨p, _, rfl, .inl (.inl upd_same), rfl, .int (x / size), _, rfl, .ref b, rfl, b, [.int x, .int y, .int z], 0, 0, rfl, rfl, hb1, rfl, .int (x % size), _, rfl, rfl, ?_⟩
    refine ⟨_, rfl, q _ _ (But.upd (But.of (Ex.new hp))) ⟨x / size, y, z, upd_same, Int.ediv_nonneg x0 (by omega), y0, y1, z0, by omega⟩ (Int.emod_nonneg _ (by omega)) (Int.emod_lt_of_pos _ s0)⟩
  · refine ⟨.int size, rfl, 10, 7, rfl, rfl, ⟨by decide, by decide, by decide⟩, size, _, rfl, rfl, _, rfl, ite2 (fun c2 => ?_) (fun _ => ?_)⟩
    · have : (10 : Int) ^ (7 : Int).toNat < size := of_decide_eq_true c2
      have e7 : (10 : Int) ^ (7 : Int).toNat = 10000000 := by decide
      omega
    refine ⟨.ref b, rfl, b, _, 2, .int z, rfl, rfl, hS, rfl, z, 1, rfl, rfl, .ref b, rfl, b, [.int x, .int y, .int z], 2, 2, rfl, rfl, hb, rfl, ?_⟩
    have hb1 : (upd H b (.lst [.int x, .int y, .int (z + 1)])) b = some (.lst [.int x, .int y, .int (z + 1)]) := upd_same
    have hS1 : SqL K (upd H b (.lst [.int x, .int y, .int (z + 1)])) b [.int x, .int y, .int (z + 1)] := .inl (.inl hb1)
    refine ⟨.ref b, rfl, b, _, 2, .int (z + 1), rfl, rfl, hS1, rfl, .ref b, rfl, b, _, 2, .int (z + 1), rfl, rfl, hS1, rfl, _, _, rfl, rfl, .inl ⟨by omega, by omega⟩, _, _, rfl, rfl, ?_⟩
    refine ⟨.ref b, rfl, b, _, 1, .int y, rfl, rfl, hS1, rfl, .ref b, rfl, b, _, 2, .int (z + 1), rfl, rfl, hS1, rfl, _, _, rfl, rfl, .inl ⟨by omega, by omega⟩, _, _, rfl, rfl, _, rfl, _, _, rfl, rfl, .inl ⟨by omega, by omega⟩, _, _, rfl, rfl, (by show (0 : Int) < 2147483587; decide), ?_⟩
    refine ⟨_, rfl, _, rfl, _, _, rfl, rfl, (by show (0 : Int) < 30011; decide), _, _, rfl, rfl, _, _, rfl, rfl, .inl ⟨by omega, by omega⟩, .ref b, rfl, b, _, 2, .int (z + 1), rfl, rfl, hS1, rfl, _, _, rfl, rfl, _, _, rfl, rfl, (by show (0 : Int) < 2147483563; decide), ?_⟩
    refine ⟨_, rfl, _, rfl, _, _, rfl, rfl, (by show (0 : Int) < 1013; decide), _, _, rfl, rfl, _, _, rfl, rfl, .inl ⟨by omega, by omega⟩, _, _, rfl, rfl, (by show (0 : Int) < 998244353; decide), _, _, rfl, rfl, ⟨by decide, by decide⟩, .int size, rfl, _, _, rfl, rfl, s0, ?_⟩
    exact q _ _ (But.upd (But.refl b H)) ⟨x, y, z + 1, upd_same, x0, y0, y1, by omega, by omega⟩ (Int.emod_nonneg _ (by omega)) (Int.emod_lt_of_pos _ s0)
end
end V


set_option Elab.async false
set_option linter.all false
set_option maxRecDepth 100000
set_option maxHeartbeats 4000000
namespace V
open PySem PySem.Spec PyProof.Rows L2 Evl
section
variable {P : Program} {w : World} {K : PySem.W.Frag} {mg : Str → Option Value} {base : Heap}
theorem ok_box (D : Def K mg "_law_box" s__law_box ["script", "k"]) (zl : mg "len" = none) (za : mg "abs" = none) (zi : mg "int" = none) : Cal P w K mg base 1 "_law_box" ["script", "k"] (spBox K) := by
  refine D.cal sc__law_box (fun vs H Q E h => ?_) (fun f cdv A outer s H vs Q E hr h => ?_)
  · obtain ⟨a, ns, k, rfl, _⟩ := h
    rfl
  obtain ⟨a, ns, k, rfl, hS, hk, q⟩ := h
  refine ⟨_, pss_cons (ps_set (i := 2) sc__law_box.nd rfl (.inl rfl) (pe_ifExp (pt_cmpR op_lt (pv 1) (pe_bi call_len_seq zl (pa_cons (pv 0) pa_nil)) (nomark _)) (pe_ix ix_list (pv 0) (pv 1) (fun _ _ => rfl)) pe_int))
    (pss_one (ps_ret (pe_lst (pa_cons (pe_op op_mul (pe_bi call_abs za (pa_cons (pv 2) pa_nil)) (pe_bt call_int1 zi (pa_cons (pe_cmpR op_ge (pe_bi call_abs za (pa_cons (pv 2) pa_nil)) (pe_op op_pow pe_int pe_int) (nomark _)) pa_nil)))
      (pa_cons (pe_op op_mod (pe_op op_mul (pe_op op_add (pe_op op_add (pe_op op_mod (pv 2) pe_int) (pe_op op_mul pe_int (pv 1))) pe_int) pe_int) pe_int) (pa_cons pe_int pa_nil)))))), ?_⟩
  -- behind the cell
  have fin : ∀ cell : Int, tRet (tLst (tCons (tOp (rI CMul fun i j => .int (i * j)) (tCB (fun xs H Q => ∃ i, xs = [.int i] ∧ Q (.int (if i < 0 then -i else i)) H) (tCons (tVar 2) tNil))
      (tCB (fun xs H Q => (∃ i, xs = [.int i] ∧ Q (.int i) H) ∨ ∃ k, xs = [.bl k] ∧ Q (.int (if k then 1 else 0)) H) (tCons (tOp (rI0 fun i j => .bl (decide (j ≤ i))) (tCB (fun xs H Q => ∃ i, xs = [.int i] ∧ Q (.int (if i < 0 then -i else i)) H) (tCons (tVar 2) tNil)) (tOp (rI CPow fun i j => .int (i ^ j.toNat)) (tC (.int 10)) (tC (.int 18)))) tNil)))
      (tCons (tOp (rI (fun _ j => 0 < j) fun i j => .int (i % j)) (tOp (rI CMul fun i j => .int (i * j)) (tOp (rI0 fun i j => .int (i + j)) (tOp (rI0 fun i j => .int (i + j)) (tOp (rI (fun _ j => 0 < j) fun i j => .int (i % j)) (tVar 2) (tC (.int 2147483629))) (tOp (rI CMul fun i j => .int (i * j)) (tC (.int 15485863)) (tVar 1))) (tC (.int 43))) (tC (.int 48271))) (tC (.int 2147483647)))
      (tCons (tC (.int 0)) tNil)))) { nx := fun _ H' => Q .non H', rt := Q } [some (.ref a), some (.int (k : Int)), some (.int cell)] H := by
    intro cell
    have m0 : 0 ≤ cell % 2147483629 := Int.emod_nonneg _ (by decide)
    have m1 : cell % 2147483629 < 2147483629 := Int.emod_lt_of_pos _ (by decide)
    refine ⟨_, rfl, cell, rfl, _, rfl, cell, rfl, _, _, rfl, rfl, ⟨by decide, by decide, by decide⟩, _, _, rfl, rfl, .inr ⟨_, rfl, _, _, rfl, rfl, .inr ?_, ?_⟩⟩
    · have z := ite01 (decide ((10 : Int) ^ (18 : Int).toNat ≤ if cell < 0 then -cell else cell) = true)
      exact ⟨by omega, by omega⟩
    refine ⟨_, rfl, _, _, rfl, rfl, (by show (0 : Int) < 2147483629; decide), _, rfl, _, _, rfl, rfl, .inl ⟨by decide, by decide⟩, _, _, rfl, rfl, _, _, rfl, rfl, _, _, rfl, rfl, .inl ⟨by omega, by omega⟩, _, _, rfl, rfl, (by show (0 : Int) < 2147483647; decide), ?_⟩
    refine ⟨sz 3, fun p hp => q _ p hp (Ex.new hp) ⟨_, _, _, upd_same, ?_, Int.emod_nonneg _ (by decide), Int.emod_lt_of_pos _ (by decide), by decide, by decide⟩⟩
    exact Int.mul_nonneg (by split <;> omega) (ite01 (decide ((10 : Int) ^ (18 : Int).toNat ≤ if cell < 0 then -cell else cell) = true)).1
  refine ⟨_, rfl, _, rfl, a, _, rfl, .inl hS, _, _, rfl, rfl, _, rfl, ite2 (fun c => ?_) (fun c => ?_)⟩
  · have hlt : (k : Int) < ((ns.map V.int).length : Int) := of_decide_eq_true c
    rw [List.length_map] at hlt
    have hk2 : k < ns.length := by omega
    refine ⟨_, rfl, _, rfl, a, _, _, .int ns[k], rfl, rfl, hS, atI_nat (by rw [List.getElem?_map, List.getElem?_eq_getElem hk2]; rfl), ?_⟩
    exact fin _
  · exact fin 0
end
end V


set_option Elab.async false
set_option linter.all false
set_option maxRecDepth 100000
set_option maxHeartbeats 4000000
namespace V
open PySem PySem.Spec PyProof.Rows L2 Evl
section
variable {P : Program} {w : World} {K : PySem.W.Frag} {mg : Str → Option Value} {base : Heap}
theorem ok_folded (D : Def K mg "_law_folded" s__law_folded ["script", "size"]) (zl : mg "list" = none) (ze : mg "enumerate" = none) : Cal P w K mg base 1 "_law_folded" ["script", "size"] (spFold K) := by
  refine D.cal sc__law_folded (fun vs H Q E h => ?_) (fun f cdv A outer s H vs Q E hr h => ?_)
  · obtain ⟨a, ns, size, rfl, _⟩ := h
    rfl
  obtain ⟨a, ns, size, rfl, hS, h63, s0, s1, q⟩ := h
  refine ⟨_, pss_cons (ps_set (i := 2) sc__law_folded.nd rfl (.inl rfl) (pe_bt call_list_of zl (pa_cons (pe_slice sl_list (pv 0) po_none (po_some (pv 1))) pa_nil)))
    (pss_cons (ps_for PassesOwn.never rfl (pi_enum rfl ze (pa_cons (pe_slice sl_list (pv 0) (po_some (pv 1)) (po_some pe_int)) pa_nil))
        (pg_tup rfl (pgs_cons (pg_name (i := 3) sc__law_folded.nd rfl (.inl rfl)) (pgs_cons (pg_name (i := 4) sc__law_folded.nd rfl (.inl rfl)) pgs_nil)))
      (pss_one (ps_asg (pe_op op_add (pe_ix ix_list (pv 2) (pe_op op_mod (pv 3) (pv 1)) (fun _ _ => rfl)) (pe_op op_mul (pv 4) (pe_op op_add (pv 3) pe_int))) (pg_sub (pv 2) (pe_op op_mod (pv 3) (pv 1)) set_list))))
    (pss_one (ps_ret (pv 2)))), ?_⟩
  refine ⟨_, rfl, _, rfl, _, rfl, a, _, rfl, hS, fun p1 n1 => ?_⟩
  have e1 : Ex H (upd H p1 (.lst (cutV (ns.map V.int) none (some (size : Int))))) := Ex.new n1
  refine ⟨p1, _, rfl, .inl (SqL.of upd_same), fun l nl => ?_⟩
  have e2 := e1.trans (Ex.new (o := .lst (cutV (ns.map V.int) none (some (size : Int)))) nl)
  have nlH : H l = none := fresh_back e1 nl
  refine ⟨_, rfl, _, rfl, _, rfl, _, rfl, a, _, rfl, ex_l e2 hS, fun p2 n2 => ?_⟩
  have e3 := e2.trans (Ex.new (o := .lst (cutV (ns.map V.int) (some (size : Int)) (some 63))) n2)
  refine ⟨p2, _, rfl, SqL.of upd_same, ?_⟩
  have hl1 : HT.sIx ns.length 0 (some (size : Int)) = min size ns.length := HT.sIx_nat _ _ _
  obtain ⟨ms, em, lm⟩ : ∃ ms : List Int, cutV (ns.map V.int) none (some (size : Int)) = ms.map V.int ∧ ms.length = min size ns.length := by
    refine ⟨_, cutV_map V.int ns none (some (size : Int)), ?_⟩
    rw [List.length_take, List.length_drop, HT.sIx_nat, HT.sIx_none]
    omega
  obtain ⟨bs, eb, lb⟩ : ∃ bs : List Int, cutV (ns.map V.int) (some (size : Int)) (some 63) = bs.map V.int ∧ (bs ≠ [] → size < ns.length) ∧ bs.length ≤ 63 := by
    refine ⟨_, cutV_map V.int ns (some (size : Int)) (some 63), fun ne => ?_, ?_⟩
    · by_cases c : size < ns.length
      · exact c
      · refine absurd ?_ ne
        rw [hl1, List.drop_eq_nil_of_le (by omega), List.take_nil]
    · rw [List.length_take, List.length_drop]
      omega
  rw [em] at e2 e3
  rw [eb] at e3
  rw [em, eb]
  have hp2l : p2 ≠ l := fun z => by
    rw [z, upd_same] at n2
    cases n2
  refine for_it (walk_enum (xs := bs.map V.int)) (fun i σ H3 => ∃ (y3 y4 : Option V) (cs : List Int), σ = [some (.ref a), some (.int (size : Int)), some (.ref l), y3, y4] ∧ Ex H H3 ∧ H3 l = some (.lst (cs.map V.int)) ∧ cs.length = ms.length ∧ H3 p2 = some (.lst (bs.map V.int)))
    ⟨none, none, ms, rfl, e3, ?_, rfl, upd_same⟩ (fun i σ H3 hi ⟨_, _, _, _, _, _, _, h⟩ => SqL.of h) ?_ ?_
  · rw [upd_ne hp2l.symm, upd_same]
  · rintro i v σ H3 H4 hi ⟨y3, y4, cs, rfl, e, hl, lc, hp⟩ ⟨T, x, y, rfl, nT, rfl, hx, hy⟩
    obtain rfl : V.int ((i : Nat) : Int) = x := Option.some.inj hx
    rw [List.length_map] at hi
    obtain rfl : V.int bs[i] = y := by
      have hy2 : (bs.map V.int)[i]? = some y := hy
      rw [List.getElem?_map, List.getElem?_eq_getElem hi] at hy2
      exact Option.some.inj hy2
    have hne : bs ≠ [] := fun z => by
      subst z
      cases hi
    have hsz := lb.1 hne
    have lTl : l ≠ T := ne_of_none hl nT
    have lTp : p2 ≠ T := ne_of_none hp nT
    have eT : Ex H (upd H3 T (.tup [.int ((i : Nat) : Int), .int bs[i]])) := e.trans (Ex.new nT)
    have hlT : (upd H3 T (.tup [.int ((i : Nat) : Int), .int bs[i]])) l = some (.lst (cs.map V.int)) := by
      rw [upd_ne lTl]
      exact hl
    have m0 : 0 ≤ ((i : Nat) : Int) % (size : Int) := Int.emod_nonneg _ (by omega)
    have m1 : ((i : Nat) : Int) % (size : Int) < (size : Int) := Int.emod_lt_of_pos _ (by omega)
    obtain ⟨j, ej⟩ : ∃ j : Nat, ((i : Nat) : Int) % (size : Int) = (j : Int) := ⟨(((i : Nat) : Int) % (size : Int)).toNat, by omega⟩
    have hj : j < cs.length := by omega
    refine ⟨T, _, rfl, SqT.of upd_same, rfl, _, _, rfl, _, _, rfl, rfl, ?_⟩
    refine ⟨_, rfl, _, rfl, _, rfl, _, _, rfl, rfl, (by show (0 : Int) < (size : Int); omega), l, cs.map V.int, (j : Int), .int cs[j], rfl, congrArg V.int ej, SqL.of hlT, atI_nat (by rw [List.getElem?_map, List.getElem?_eq_getElem hj]; rfl),
      _, rfl, _, rfl, _, _, rfl, rfl, _, _, rfl, rfl, .inr ⟨by omega, by omega⟩, _, _, rfl, rfl, _, rfl, _, rfl, _, rfl, _, _, rfl, rfl, (by show (0 : Int) < (size : Int); omega), l, _, (j : Int), j, rfl, congrArg V.int ej, hlT, ixN_nat (by rw [List.length_map]; exact hj), ?_⟩
    refine ⟨some (.int ((i : Nat) : Int)), some (.int bs[i]), cs.set j (cs[j] + bs[i] * (((i : Nat) : Int) + 2)), rfl, Ex.mut eT nlH, ?_, ?_, ?_⟩
    · rw [upd_same, List.map_set]
    · rw [List.length_set]
      exact lc
    · rw [upd_ne hp2l, upd_ne lTp]
      exact hp
  · rintro σ H3 ⟨y3, y4, cs, rfl, e, hl, lc, hp⟩
    exact ⟨_, rfl, q H3 l cs nlH e hl (by omega)⟩
end
end V


set_option Elab.async false
set_option linter.all false
set_option maxRecDepth 100000
set_option maxHeartbeats 400000
namespace V
open PySem PySem.Spec PyProof.Rows L2 Evl TL NumText
section
variable {P : Program} {w : World} {K : PySem.W.Frag} {mg : Str → Option Value} {base : Heap}
theorem ok_lawSpots (T : Txt K w mg) : ∀ n : Nat, Cal P w K mg base (n + 1) "_law_spots" ["term"] (spPlaces n)
  | 0 => (T.D__law_spots.never fun vs H Q E h => by
      obtain ⟨v, t, M, _, _, _, h1, _⟩ := h
      have := deep_pos t
      omega).mono (Nat.zero_le _)
  | n + 1 => by
    have G__law_spots := ok_lawSpots T n
    refine T.D__law_spots.cal sc__law_spots (fun vs H Q E h => ?_) (fun f cdv A outer s H vs Q E hr h => ?_)
    · obtain ⟨v, t, M, rfl, _⟩ := h
      rfl
    obtain ⟨v, t, M, rfl, hT, hO, hd, hz, q⟩ := h
    refine ⟨_, (pss_cons (ps_if (pt_cmpR op_in_seq (pe_ix (r := rIxT K) ix_tup (pv 0) pe_int (fun _ _ => rfl)) (pe_tup (pa_cons pe_str (pa_cons pe_str pa_nil))) rfl)
    (pss_one (ps_ret (pe_lst pa_nil)))
    pss_nil)
  (pss_cons (ps_par (i := 1) (j := 2) rfl sc__law_spots.nd rfl rfl (by decide) rfl rfl (pa_cons (pe_lst pa_nil) (pa_cons (pe_slice sl_tupA (pv 0) (po_some pe_int) po_none) pa_nil)) rfl)
  (pss_cons (ps_if (pt_cmpR op_in_seq (pe_ix (r := rIxT K) ix_tup (pv 0) pe_int (fun _ _ => rfl)) (pe_tup (pa_cons pe_str (pa_cons pe_str pa_nil))) rfl)
    (pss_one (ps_par (i := 1) (j := 2) rfl sc__law_spots.nd rfl rfl (by decide) rfl rfl (pa_cons (pe_op op_rep (pe_lst (pa_cons (pe_ix (r := rIxT K) ix_tup (pv 0) pe_int (fun _ _ => rfl)) pa_nil)) (pe_bt call_int1 T.z_int (pa_cons (pe_cmpR op_eq (pe_ix (r := rIxT K) ix_tup (pv 0) pe_int (fun _ _ => rfl)) pe_str (nomark _)) pa_nil))) (pa_cons (pe_ix (r := rIxT K) ix_tup (pv 0) pe_int (fun _ _ => rfl)) pa_nil)) rfl))
    pss_nil)
  (pss_cons (ps_for PassesOwn.never rfl (pi_tup (pv 2)) (pg_name (i := 3) sc__law_spots.nd rfl (.inl rfl))
    (pss_one (ps_set (i := 1) sc__law_spots.nd rfl (.inl rfl) (pe_op op_cat (pv 1) (pe_fn G__law_spots hr (by omega) (pa_cons (pv 3) pa_nil))))))
  (pss_one (ps_ret (pv 1))))))), ?_⟩
    let A0 : L2.St → Hp → Prop := fun σ H' => σ = [some v, none, none, none] ∧ H' = H
    let A1 : L2.St → Hp → Prop := fun σ H' => σ = [some v, none, none, none] ∧ Ex H H' ∧ ∃ h ts, t = .node h ts
    let A2 : L2.St → Hp → Prop := fun σ H' => ∃ (p pp : Addr) (h : Hd) (ts : List Tm), σ = [some v, some (.ref p), some (.ref pp), none] ∧ Ex H H' ∧ t = .node h ts ∧ H p = none ∧ H' p = some (.lst []) ∧ (h.notOp = false → ∃ ws, H' pp = some (.tup ws) ∧ TmsAt H' ws ts)
    let A3 : L2.St → Hp → Prop := fun σ H' => ∃ (p pp : Addr) (h : Hd) (ts : List Tm) (ws : List V), σ = [some v, some (.ref p), some (.ref pp), none] ∧ Ex H H' ∧ t = .node h ts ∧ H p = none ∧ H' p = some (.lst (h.ps.map fun k : Nat => V.int (k : Int))) ∧ H' pp = some (.tup ws) ∧ TmsAt H' ws ts
    let A4 : L2.St → Hp → Prop := fun σ H' => ∃ (p : Addr) (z y : Option V), σ = [some v, some (.ref p), z, y] ∧ Ex H H' ∧ H p = none ∧ H' p = some (.lst (t.places.map fun k : Nat => V.int (k : Int)))
    refine (Hr.fin (A := A0) (B := A1) ?_ (Hs.fin (B := A2) ?_ (Hs.fin (B := A3) ?_ (Hs.fin (B := A4) ?_ (Q := Q) ?_)))) _ _ H ⟨rfl, rfl⟩ fun v H' h => h
    · rintro D σ H0 ⟨rfl, rfl⟩ kk kr
      refine word_in (v := v) rfl hT fun H1 e1 => ?_
      by_cases leaf : ∀ hd ts, t ≠ .node hd ts
      · rw [word_leaf leaf]
        refine iteT ⟨sz 0, fun p hp => kr _ _ (q _ p (fresh_back e1 hp) (e1.trans (Ex.new hp)) ?_)⟩
        rw [(mks_leaf leaf).2.1]
        exact upd_same
      · have nod : ∃ h ts, t = .node h ts := by
          cases t with
          | node h ts => exact ⟨h, ts, rfl⟩
          | num n => exact absurd (fun h ts z => by cases z) leaf
          | arg n => exact absurd (fun h ts z => by cases z) leaf
        obtain ⟨h, ts, rfl⟩ := nod
        rw [word_node]
        exact iteF (kk _ _ ⟨rfl, e1, h, ts, rfl⟩)
    · rintro D σ H1 ⟨rfl, e1, h, ts, rfl⟩ kk
      have g1 := hT.ex e1
      refine ⟨sz 0, fun p hp => ?_⟩
      have e2 := e1.trans (Ex.new (o := .lst []) hp)
      have nH := fresh_back e1 hp
      have f1 := Ex.new (o := .lst []) hp
      cases g1 with
      | @op a o ws _ hh hs =>
        refine ⟨_, rfl, 1, rfl, a, _, rfl, SqT.of (f1 _ _ hh), fun z => ?_, fun _ pp hpp => ⟨_, _, rfl, kk _ _ ⟨p, pp, _, _, rfl, e2.trans (Ex.new hpp), rfl, nH, (Ex.new hpp) _ _ upd_same, fun _ => ⟨ws, ?_, hs.ex (f1.trans (Ex.new hpp))⟩⟩⟩⟩
        · have z1 : HT.sIx (V.str o.str :: ws).length 0 (some ((1 : Nat) : Int)) = 0 := z.1
          rw [HT.sIx_nat, List.length_cons] at z1
          omega
        · rw [upd_same, cut_tail]
      | @call a b m ws _ hh h2 hs =>
        refine ⟨_, rfl, 1, rfl, a, _, rfl, SqT.of (f1 _ _ hh), fun z => ⟨_, _, rfl, kk _ _ ⟨p, a, _, _, rfl, e2, rfl, nH, upd_same, fun z => by cases z⟩⟩, fun _ pp hpp => ⟨_, _, rfl, kk _ _ ⟨p, pp, _, _, rfl, e2.trans (Ex.new hpp), rfl, nH, (Ex.new hpp) _ _ upd_same, fun z => by cases z⟩⟩⟩
      | @ring a b m ws _ hh h2 hs =>
        refine ⟨_, rfl, 1, rfl, a, _, rfl, SqT.of (f1 _ _ hh), fun z => ⟨_, _, rfl, kk _ _ ⟨p, a, _, _, rfl, e2, rfl, nH, upd_same, fun z => by cases z⟩⟩, fun _ pp hpp => ⟨_, _, rfl, kk _ _ ⟨p, pp, _, _, rfl, e2.trans (Ex.new hpp), rfl, nH, (Ex.new hpp) _ _ upd_same, fun z => by cases z⟩⟩⟩
    · rintro D σ H1 ⟨p, pp, h, ts, rfl, e1, rfl, np, hp, op⟩ kk
      have g1 := hT.ex e1
      refine word_in (v := v) rfl g1 fun H2 e2 => ?_
      rw [word_call]
      cases h with
      | op o =>
        obtain ⟨ws, h1, h2⟩ := op rfl
        exact iteF (kk _ _ ⟨p, pp, _, _, ws, rfl, e1.trans e2, rfl, np, e2 _ _ hp, e2 _ _ h1, h2.ex e2⟩)
      | call m =>
        have g2 := g1.ex e2
        cases g2 with
        | @call a b _ ws _ hh h2 hs =>
          refine iteT ⟨_, rfl, a, _, 1, _, rfl, rfl, SqT.of hh, rfl, sz 1, fun l hl => ⟨_, rfl, a, _, 0, _, rfl, rfl, SqT.of ((Ex.new hl) _ _ hh), at0, rfl, .inr ⟨_, rfl, ?_⟩⟩⟩
          have f1 := Ex.new (o := .lst [V.str m]) hl
          rw [eq_word, show decide (("call" : Str) = "ring") = false by decide +kernel]
          refine ⟨l, 0, _, rfl, rfl, upd_same, by decide, by decide, Nat.zero_le _, fun p2 hp2 => ⟨_, rfl, a, _, 2, _, rfl, rfl, SqT.of ((f1.trans (Ex.new hp2)) _ _ hh), rfl, _, _, rfl, kk _ _ ⟨p2, b, _, _, ws, rfl, e1.trans (e2.trans (f1.trans (Ex.new hp2))), rfl, fresh_back (e1.trans (e2.trans f1)) hp2, upd_same, (f1.trans (Ex.new hp2)) _ _ h2, hs.ex (f1.trans (Ex.new hp2))⟩⟩⟩
      | ring m =>
        have g2 := g1.ex e2
        cases g2 with
        | @ring a b _ ws _ hh h2 hs =>
          refine iteT ⟨_, rfl, a, _, 1, _, rfl, rfl, SqT.of hh, rfl, sz 1, fun l hl => ⟨_, rfl, a, _, 0, _, rfl, rfl, SqT.of ((Ex.new hl) _ _ hh), at0, rfl, .inr ⟨_, rfl, ?_⟩⟩⟩
          have f1 := Ex.new (o := .lst [V.int (m : Int)]) hl
          rw [eq_word, decide_eq_true rfl]
          refine ⟨l, 1, _, rfl, rfl, upd_same, by decide, by decide, line2 (by show 1 * 1 ≤ 1000000; decide), fun p2 hp2 => ⟨_, rfl, a, _, 2, _, rfl, rfl, SqT.of ((f1.trans (Ex.new hp2)) _ _ hh), rfl, _, _, rfl, kk _ _ ⟨p2, b, _, _, ws, rfl, e1.trans (e2.trans (f1.trans (Ex.new hp2))), rfl, fresh_back (e1.trans (e2.trans f1)) hp2, upd_same, (f1.trans (Ex.new hp2)) _ _ h2, hs.ex (f1.trans (Ex.new hp2))⟩⟩⟩
    · rintro D σ H2 ⟨p, pp, h, ts, ws, rfl, e2, rfl, np, hp, hpp, hws⟩ kk
      have nz : (Tm.node h ts).size = 1 + Tm.sizes ts := rfl
      refine ⟨_, rfl, pp, rfl, ⟨_, SqT.of hpp⟩, ?_⟩
      refine for_it (walk_tup (xs := ws)) (fun i σ H3 => ∃ (p : Addr) (y : Option V), σ = [some v, some (.ref p), some (.ref pp), y] ∧ Ex H H3 ∧ Ex H2 H3 ∧ H p = none ∧ H3 p = some (.lst ((h.ps ++ (ts.take i).flatMap Tm.places).map fun k : Nat => V.int (k : Int))))
        ⟨p, none, rfl, e2, Ex.refl H2, np, by rw [show (ts.take 0).flatMap Tm.places = [] from rfl, List.append_nil]; exact hp⟩ (fun i σ H3 _ ⟨_, _, _, _, e3, _⟩ => SqT.of (e3 _ _ hpp)) ?_ ?_
      · rintro i x σ H3 H4 hi ⟨p', y, rfl, e3, e3', np', hp'⟩ ⟨rfl, hx⟩
        obtain ⟨u, hu, hxu⟩ := hws.get hx
        have hum := get_mem hu
        have z1 := size_mem hum
        have d1 : u.deep + 1 ≤ (Tm.node h ts).deep := parts_deep (t := .node h ts) hum
        refine ⟨_, rfl, _, rfl, x, u, M, rfl, hxu.ex e3', hO.parts hum, by omega, by omega, fun H5 p5 n5 e5 h5 => ?_⟩
        have l1 := ps_le h
        have l2 := flat_leN places_len (ts.take i)
        have l3 := sizes_take ts i
        have l4 := places_len u
        refine ⟨p', p5, _, _, rfl, rfl, e5 _ _ hp', h5, line2 (by rw [List.length_map, List.length_map, List.length_append]; omega), fun p6 n6 => ⟨p6, some x, rfl, e3.trans (e5.trans (Ex.new n6)), e3'.trans (e5.trans (Ex.new n6)), fresh_back (e3.trans e5) n6, ?_⟩⟩
        rw [upd_same, take_flat hu, ← List.map_append, List.append_assoc]
      · rintro σ H3 ⟨p', y, rfl, e3, e3', np', hp'⟩
        rw [hws.length, List.take_length, ← places_node] at hp'
        exact kk _ _ ⟨p', _, y, rfl, e3, np', hp'⟩
    · rintro D σ H1 ⟨p, z, y, rfl, e1, np, hp⟩ kr
      exact ⟨_, rfl, kr _ _ (q _ p np e1 hp)⟩
end
end V


set_option Elab.async false
set_option linter.all false
set_option maxRecDepth 100000
set_option maxHeartbeats 4000000
namespace V
open PySem PySem.Spec PyProof.Rows L2 Evl TL NumText
section
variable {P : Program} {w : World} {K : PySem.W.Frag} {mg : Str → Option Value} {base : Heap}
theorem ok_placed (T : Txt K w mg) : ∀ n : Nat, Cal P w K mg base (n + 1) "_law_placed" ["term", "places"] (spPlaced n)
  | 0 => (T.D__law_placed.never fun vs H Q E h => by
      obtain ⟨v, t, pa, l, _, _, _, h1, _⟩ := h
      have := deep_pos t
      omega).mono (Nat.zero_le _)
  | n + 1 => by
    have G__law_placed := ok_placed T n
    refine T.D__law_placed.cal sc__law_placed (fun vs H Q E h => ?_) (fun f cdv A outer s H vs Q E hr h => ?_)
    · obtain ⟨v, t, pa, l, rfl, _⟩ := h
      rfl
    obtain ⟨v, t, pa, l, rfl, hT, hO, hd, hp, hl, hl2, q⟩ := h
    refine ⟨_, (pss_cons (ps_if (pt_cmpR op_in_seq (pe_ix (r := rIxT K) ix_tup (pv 0) pe_int (fun _ _ => rfl)) (pe_tup (pa_cons pe_str (pa_cons pe_str pa_nil))) rfl)
    (pss_one (ps_ret (pv 0)))
    pss_nil)
  (pss_cons (ps_if (pt_cmpR op_eq (pe_ix (r := rIxT K) ix_tup (pv 0) pe_int (fun _ _ => rfl)) pe_str (nomark _))
    (pss_one (ps_ret (pe_op op_catA (pe_slice sl_tupA (pv 0) po_none (po_some pe_int)) (pe_tup (pa_cons (pe_bt call_tuple_of T.z_tuple (pa_cons (pe_lc (own := [("one", 3)]) (g := (gName 3)) (tt := tYes) rfl sc__law_placed.nd (pi_tup (pe_ix (r := rIxT K) ix_tup (pv 0) pe_int (fun _ _ => rfl))) (blkOk_by (N := N__law_placed) (sc := defScope s__law_placed) (by decide +kernel)) (fun _ _ _ _ _ => (pg_name (i := 3) sc__law_placed.nd rfl (.inl rfl))) (fun _ _ _ _ _ => pts_nil) (fun _ _ _ _ _ => (pe_fn G__law_placed hr (by omega) (pa_cons (pv 3) (pa_cons (pv 1) pa_nil))))) pa_nil)) pa_nil)))))
    pss_nil)
  (pss_cons (ps_if (pt_cmpR op_eq (pe_ix (r := rIxT K) ix_tup (pv 0) pe_int (fun _ _ => rfl)) pe_str (nomark _))
    (pss_cons (ps_set (i := 2) sc__law_placed.nd rfl (.inl rfl) (pe_bm PySem.F.plainAttrs_list PySem.F.slot_list_pop PySem.F.type_list_pop mt_popAt (pv 1) (pa_cons pe_int pa_nil)))
    (pss_one (ps_ret (pe_tup (pa_cons pe_str (pa_cons (pv 2) (pa_cons (pe_bt call_tuple_of T.z_tuple (pa_cons (pe_lc (own := [("one", 3)]) (g := (gName 3)) (tt := tYes) rfl sc__law_placed.nd (pi_tup (pe_ix (r := rIxT K) ix_tup (pv 0) pe_int (fun _ _ => rfl))) (blkOk_by (N := N__law_placed) (sc := defScope s__law_placed) (by decide +kernel)) (fun _ _ _ _ _ => (pg_name (i := 3) sc__law_placed.nd rfl (.inl rfl))) (fun _ _ _ _ _ => pts_nil) (fun _ _ _ _ _ => (pe_fn G__law_placed hr (by omega) (pa_cons (pv 3) (pa_cons (pv 1) pa_nil))))) pa_nil)) pa_nil)))))))
    pss_nil)
  (pss_one (ps_ret (pe_op op_catA (pe_slice sl_tupA (pv 0) po_none (po_some pe_int)) (pe_bt call_tuple_of T.z_tuple (pa_cons (pe_lc (own := [("one", 3)]) (g := (gName 3)) (tt := tYes) rfl sc__law_placed.nd (pi_tup (pe_slice sl_tupA (pv 0) (po_some pe_int) po_none)) (blkOk_by (N := N__law_placed) (sc := defScope s__law_placed) (by decide +kernel)) (fun _ _ _ _ _ => (pg_name (i := 3) sc__law_placed.nd rfl (.inl rfl))) (fun _ _ _ _ _ => pts_nil) (fun _ _ _ _ _ => (pe_fn G__law_placed hr (by omega) (pa_cons (pv 3) (pa_cons (pv 1) pa_nil))))) pa_nil)))))))), ?_⟩
    have pab : ∀ {H' : Hp}, Ex H H' → H' pa = some (.lst (intsV l)) := fun e => e _ _ hp
    have turn : ∀ (H2 : Hp) (Dl : Addr) (ws : List V) (ts : List Tm) (l0 : List Nat) (i : Nat) (x : V) (H3 : Hp), H2 Dl = none → Dl ≠ pa → (∃ xs, H2 pa = some (.lst xs)) → TmsAt H2 ws ts → (∀ t ∈ ts, t.Ok 1000 ∧ t.deep ≤ n) → ts.length ≤ 4 →
        (ts.flatMap Tm.places).length ≤ l0.length → l0.length ≤ 1000 → ws[i]? = some x → Pls H2 pa Dl ts l0 i H3 → spPlaced n [x, .ref pa] H3 (fun v' H4 => ∃ acc, H4 Dl = some (.lst acc) ∧ acc.length < sizeLine ∧ Pls H2 pa Dl ts l0 (i + 1) (upd H4 Dl (.lst (acc ++ [v'])))) E0 := by
      rintro H2 Dl ws ts l0 i x H3 hD nD ⟨xs, hxs⟩ hws ok f4 hl0 hl1 hx ⟨u3, h3, vs, d3, g3⟩
      obtain ⟨u, hu, gu⟩ := hws.get hx
      have mu := get_mem hu
      have fm : ((ts.take (i + 1)).flatMap Tm.places).length = ((ts.take i).flatMap Tm.places).length + u.places.length := by
        rw [take_more hu, List.flatMap_append, List.length_append, List.flatMap_cons, List.flatMap_nil, List.append_nil]
      have le : ((ts.take (i + 1)).flatMap Tm.places).length ≤ (ts.flatMap Tm.places).length := by
        conv => rhs; rw [← List.take_append_drop (i + 1) ts]
        rw [List.flatMap_append, List.length_append]
        omega
      refine ⟨x, u, pa, _, rfl, gu.tu (u3.tu hxs), (ok u mu).1, (ok u mu).2, h3, by rw [List.length_drop]; omega, by rw [List.length_drop]; omega, fun H4 v' u4 h4 g4 => ?_⟩
      have d4 := u4 _ _ nD d3
      have tu : Tu H4 (upd H4 Dl (.lst (vs ++ [v']))) := (But.upd (But.refl Dl H4)).tu d4
      have lv := g3.length
      rw [plc_len, List.length_take] at lv
      refine ⟨vs, d4, small1000 (by omega), But.on hD u3 (u4.trans (But.refl _ _)), ?_, _, upd_same, ?_⟩
      · rw [upd_ne nD.symm, h4, List.drop_drop, fm]
      · rw [take_more hu, plc_snoc]
        exact ((g3.tu (u4.tu h3)).tu tu).append (.cons (g4.tu tu) .nil)
    have done : ∀ {H2 H3 : Hp} {Dl : Addr} {ws : List V} {ts : List Tm} {l0 : List Nat}, TmsAt H2 ws ts → Pls H2 pa Dl ts l0 ws.length H3 → But pa H2 H3 ∧ H3 pa = some (.lst (intsV (l0.drop (ts.flatMap Tm.places).length))) ∧ ∃ vs, H3 Dl = some (.lst vs) ∧ TmsAt H3 vs (Tm.plc ts l0) := fun hws ⟨u3, h3, vs, d3, g3⟩ => by
      rw [hws.length, List.take_length] at h3 g3
      exact ⟨u3, h3, vs, d3, g3⟩
    refine word_in (v := v) rfl hT fun H1 e1 => ?_
    have hT1 := hT.ex e1
    obtain ⟨b, r, rfl, hb⟩ := hT1.head
    by_cases leaf : ∀ hd ts, t ≠ .node hd ts
    · rw [word_leaf leaf]
      have e0 : t.places = [] := (mks_leaf leaf).2.1
      have e2 : t.pl l = t := by
        cases t with
        | num k => rfl
        | arg k => rfl
        | node h ts => exact absurd rfl (leaf h ts)
      refine iteT ⟨_, rfl, q H1 _ (But.of e1) ?_ ?_⟩
      · rw [e0]
        exact e1 _ _ hp
      · rw [e2]
        exact hT1
    obtain ⟨h, ts, rfl⟩ : ∃ h ts, t = .node h ts := by
      cases t with
      | node h ts => exact ⟨h, ts, rfl⟩
      | num n => exact absurd (fun h ts z => by cases z) leaf
      | arg n => exact absurd (fun h ts z => by cases z) leaf
    have f4 : ts.length ≤ 4 := hO.few
    have okp : ∀ t ∈ ts, t.Ok 1000 ∧ t.deep ≤ n := fun t ht => ⟨hO.parts ht, by have d1 : t.deep + 1 ≤ (Tm.node h ts).deep := parts_deep (t := .node h ts) ht; omega⟩
    rw [places_node, List.length_append] at hl
    rw [places_node] at q
    rw [word_node]
    refine iteF ⟨_, rfl, b, _, 0, _, rfl, rfl, SqT.of hb, at0, rfl, _, rfl, ?_⟩
    have mk : ∀ k : Nat, k ≤ 10 → k ≤ sizeLine := fun k hk => sz k (by omega)
    cases hT1 with
    | @call _ c m ws2 _ g1 g2 gs =>
      rw [decide_eq_true (show V.str (Tm.node (.call m) ts).word = V.str "call" from rfl)]
      refine iteT ⟨_, rfl, 2, rfl, b, _, rfl, SqT.of g1, fun y => (two_of3 _ _ _ y).elim, fun _ k1 hk1 => ?_⟩
      rw [cut_two]
      have f1 := Ex.new (o := .tup [V.str "call", .str m]) hk1
      have h1 : (upd H1 k1 (.tup [V.str "call", .str m])) k1 = some (.tup [V.str "call", .str m]) := upd_same
      generalize upd H1 k1 (.tup [V.str "call", .str m]) = H2 at f1 h1 ⊢
      have p2 := pab (e1.trans f1)
      refine ⟨_, rfl, b, _, 2, _, rfl, rfl, SqT.of (f1 _ _ g1), rfl, c, rfl, ⟨_, SqT.of (f1 _ _ g2)⟩, fun Dl hD => ?_⟩
      have nD : Dl ≠ pa := fun z => by rw [z, p2] at hD; cases hD
      have gs2 := gs.ex f1
      refine lc_tup (xs := ws2) (fun i H3 => Pls H2 pa Dl ts l i H3) ⟨But.of (Ex.new hD), by rw [upd_ne nD.symm]; exact p2, [], upd_same, .nil⟩ (fun i H3 _ k => SqT.of ((k.1.tu p2) _ _ (f1 _ _ g2))) (fun i x H3 hi k => ⟨rfl, yes ⟨_, rfl, _, rfl, turn H2 Dl ws2 ts l i x H3 hD nD ⟨_, p2⟩ gs2 okp f4 (by omega) hl2 hi k⟩⟩) fun H3 k => ?_
      obtain ⟨u3, h3, vs, d3, g3⟩ := done gs2 k
      refine ⟨Dl, vs, rfl, .inl ⟨SqL.of d3, fun l1 hl1 => ⟨mk 1 (by omega), fun l2 hl2' => ?_⟩⟩⟩
      have f4' := Ex.new (o := .tup vs) hl1
      have f5 := Ex.new (o := .tup [.ref l1]) hl2'
      have h13 := (f4'.trans f5) _ _ (u3.tu p2 _ _ h1)
      refine ⟨k1, l2, _, _, rfl, rfl, SqT.of h13, SqT.of upd_same, (show 3 ≤ sizeLine from mk 3 (by omega)), (fun z => by cases z), (fun _ z => by cases z), fun _ _ l3 hl3 => ?_⟩
      have f6 := Ex.new (o := .tup ([V.str "call", .str m] ++ [.ref l1])) hl3
      have ff := f4'.trans (f5.trans f6)
      refine q _ _ ((But.of (e1.trans f1)).trans (u3.trans (But.of ff))) ?_ ?_
      · rw [ff _ _ h3]
        rfl
      · show TmAt _ _ (.node (.call m) (Tm.plc ts (l.drop 0)))
        exact .call upd_same ((f5.trans f6) _ _ upd_same) (g3.ex ff)
    | @ring _ c m ws2 _ g1 g2 gs =>
      rw [decide_eq_false (show ¬ V.str (Tm.node (.ring m) ts).word = V.str "call" by show ¬ V.str "ring" = V.str "call"; decide +kernel)]
      refine iteF ⟨_, rfl, b, _, 0, _, rfl, rfl, SqT.of hb, at0, rfl, _, rfl, ?_⟩
      rw [decide_eq_true (show V.str (Tm.node (.ring m) ts).word = V.str "ring" from rfl)]
      obtain ⟨x0, l', rfl⟩ : ∃ x0 l', l = x0 :: l' := by
        cases l with
        | nil => exact absurd hl (by show ¬ (1 + _ ≤ 0); omega)
        | cons x0 l' => exact ⟨x0, l', rfl⟩
      have hl' : (ts.flatMap Tm.places).length ≤ l'.length := by
        have h0 : 1 + (ts.flatMap Tm.places).length ≤ l'.length + 1 := hl
        omega
      refine iteT ⟨_, rfl, .inl ⟨rfl, intsV (x0 :: l'), SqL.of (e1 _ _ hp)⟩, pa, _, 0, 0, .int (x0 : Int), rfl, rfl, e1 _ _ hp, by decide, by decide, ?_, rfl, ?_⟩
      · unfold seqIndex?
        simp [intsV]
      have p2 : (upd H1 pa (.lst (intsV l'))) pa = some (.lst (intsV l')) := upd_same
      have u2 : But pa H (upd H1 pa (.lst (intsV l'))) := (But.of e1).trans (But.upd (But.refl pa H1))
      have t2 : Tu H1 (upd H1 pa (.lst (intsV l'))) := (But.upd (But.refl pa H1)).tu (e1 _ _ hp)
      show tSeq _ _ _ _ (upd H1 pa (.lst (intsV l')))
      generalize upd H1 pa (.lst (intsV l')) = H2 at p2 u2 t2 ⊢
      have g1' := t2 _ _ g1
      have g2' := t2 _ _ g2
      refine ⟨_, rfl, _, rfl, b, _, 2, _, rfl, rfl, SqT.of g1', rfl, c, rfl, ⟨_, SqT.of g2'⟩, fun Dl hD => ?_⟩
      have nD : Dl ≠ pa := fun z => by rw [z, p2] at hD; cases hD
      have gs2 := gs.tu t2
      have l'2 : l'.length ≤ 1000 := by
        have : l'.length + 1 ≤ 1000 := hl2
        omega
      refine lc_tup (xs := ws2) (fun i H3 => Pls H2 pa Dl ts l' i H3) ⟨But.of (Ex.new hD), by rw [upd_ne nD.symm]; exact p2, [], upd_same, .nil⟩ (fun i H3 _ k => SqT.of ((k.1.tu p2) _ _ g2')) (fun i x H3 hi k => ⟨rfl, yes ⟨_, rfl, _, rfl, turn H2 Dl ws2 ts l' i x H3 hD nD ⟨_, p2⟩ gs2 okp f4 hl' l'2 hi k⟩⟩) fun H3 k => ?_
      obtain ⟨u3, h3, vs, d3, g3⟩ := done gs2 k
      refine ⟨Dl, vs, rfl, .inl ⟨SqL.of d3, fun l1 hl1 => ⟨mk 3 (by omega), fun l3 hl3 => ?_⟩⟩⟩
      have f5 := Ex.new (o := .tup vs) hl1
      have f6 := Ex.new (o := .tup [V.str "ring", .int (x0 : Int), .ref l1]) hl3
      have ff := f5.trans f6
      refine q _ _ (u2.trans (u3.trans (But.of ff))) ?_ ?_
      · rw [ff _ _ h3]
        have e : (Hd.ps (.ring m) ++ ts.flatMap Tm.places).length = 1 + (ts.flatMap Tm.places).length := by
          rw [List.length_append]
          rfl
        rw [e, Nat.add_comm, List.drop_succ_cons]
      · show TmAt _ _ (.node (.ring x0) (Tm.plc ts ((x0 :: l').drop 1)))
        exact .ring upd_same (f6 _ _ upd_same) (g3.ex ff)
    | @op _ o ws2 _ g1 gs =>
      rw [decide_eq_false (show ¬ V.str (Tm.node (.op o) ts).word = V.str "call" by show ¬ V.str o.str = V.str "call"; cases o <;> decide +kernel)]
      refine iteF ⟨_, rfl, b, _, 0, _, rfl, rfl, SqT.of hb, at0, rfl, _, rfl, ?_⟩
      rw [decide_eq_false (show ¬ V.str (Tm.node (.op o) ts).word = V.str "ring" by show ¬ V.str o.str = V.str "ring"; cases o <;> decide +kernel)]
      have lw : ws2.length ≤ 4 := by rw [gs.length]; exact f4
      have ne : ws2 ≠ [] := by
        have := gs.length
        cases hO with
        | node ho _ =>
          have h2 : ts.length = o.ar := ho
          intro z
          rw [z] at this
          have : o.ar = 0 := by rw [← h2, ← this]; rfl
          cases o <;> cases this
      refine iteF ⟨_, rfl, 1, rfl, b, _, rfl, SqT.of g1, fun y => ?_, fun _ k1 hk1 => ?_⟩
      · have z1 := y.2
        rw [show (some (1 : Int)) = some ((1 : Nat) : Int) from rfl, HT.sIx_nat, List.length_cons] at z1
        have := List.length_pos_iff.mpr ne
        omega
      have ct : cutV (V.str o.str :: ws2) none (some 1) = [.str o.str] := by
        unfold cutV
        rw [HT.sIx_none, show (some (1 : Int)) = some ((1 : Nat) : Int) from rfl, HT.sIx_nat, List.length_cons, Nat.min_eq_left (by omega)]
        rfl
      rw [ct]
      have f1 := Ex.new (o := .tup [V.str o.str]) hk1
      have h1 : (upd H1 k1 (.tup [V.str o.str])) k1 = some (.tup [V.str o.str]) := upd_same
      generalize upd H1 k1 (.tup [V.str o.str]) = H2 at f1 h1 ⊢
      have p2 := pab (e1.trans f1)
      refine ⟨_, rfl, 1, rfl, b, _, rfl, SqT.of (f1 _ _ g1), fun y => ?_, fun _ k2 hk2 => ?_⟩
      · have z1 : HT.sIx (V.str o.str :: ws2).length 0 (some ((1 : Nat) : Int)) = 0 := y.1
        rw [HT.sIx_nat, List.length_cons] at z1
        omega
      rw [cut_tail]
      have f2 := Ex.new (o := .tup ws2) hk2
      have h2 : (upd H2 k2 (.tup ws2)) k2 = some (.tup ws2) := upd_same
      generalize upd H2 k2 (.tup ws2) = H3 at f2 h2 ⊢
      have p3 := f2 _ _ p2
      refine ⟨k2, rfl, ⟨_, SqT.of h2⟩, fun Dl hD => ?_⟩
      have nD : Dl ≠ pa := fun z => by rw [z, p3] at hD; cases hD
      have gs2 := gs.ex (f1.trans f2)
      refine lc_tup (xs := ws2) (fun i H4 => Pls H3 pa Dl ts l i H4) ⟨But.of (Ex.new hD), by rw [upd_ne nD.symm]; exact p3, [], upd_same, .nil⟩ (fun i H4 _ k => SqT.of ((k.1.tu p3) _ _ h2)) (fun i x H4 hi k => ⟨rfl, yes ⟨_, rfl, _, rfl, turn H3 Dl ws2 ts l i x H4 hD nD ⟨_, p3⟩ gs2 okp f4 (by omega) hl2 hi k⟩⟩) fun H4 k => ?_
      obtain ⟨u3, h3, vs, d3, g3⟩ := done gs2 k
      have lv : vs.length ≤ 4 := by rw [g3.length, plc_len]; exact f4
      refine ⟨Dl, vs, rfl, .inl ⟨SqL.of d3, fun l1 hl1 => ?_⟩⟩
      have f4' := Ex.new (o := .tup vs) hl1
      have h13 := f4' _ _ (u3.tu p3 _ _ (f2 _ _ h1))
      have vne : vs ≠ [] := fun z => ne (List.length_eq_zero_iff.mp (by rw [gs.length, ← plc_len ts l, ← g3.length, z]; rfl))
      refine ⟨k1, l1, _, _, rfl, rfl, SqT.of h13, SqT.of upd_same, mk _ (by show 1 + vs.length ≤ 10; omega), (fun z => by cases z), (fun _ z => absurd z vne), fun _ _ l3 hl3 => ?_⟩
      have f6 := Ex.new (o := .tup ([V.str o.str] ++ vs)) hl3
      have ff := f4'.trans f6
      refine q _ _ ((But.of (e1.trans (f1.trans f2))).trans (u3.trans (But.of ff))) ?_ ?_
      · rw [ff _ _ h3]
        rfl
      · show TmAt _ _ (.node (.op o) (Tm.plc ts (l.drop 0)))
        exact .op upd_same (g3.ex ff)
end
end V


set_option Elab.async false
set_option linter.all false
set_option maxRecDepth 100000
set_option maxHeartbeats 4000000
namespace V
open PySem PySem.Spec PyProof.Rows L2 Evl

end V


set_option Elab.async false
set_option linter.all false
set_option maxRecDepth 100000
set_option maxHeartbeats 4000000
namespace V
open PySem PySem.Spec PyProof.Rows L2 Evl
section
variable {P : Program} {w : World} {K : PySem.W.Frag} {mg : Str → Option Value} {base : Heap}
theorem ok_parts (D : Def K mg "parts_of" s_parts_of ["term"]) (O : Ops K w mg) (gC : ∃ a, mg "CALLS" = some (.ref a) ∧ ∀ H, SqT K H a [.str "call", .str "ring", .str "name"]) : Cal P w K mg base 1 "parts_of" ["term"] spParts := by
  obtain ⟨d, es, n, gO, KD, hin, hval⟩ := O.ex
  obtain ⟨dc, gC, hC⟩ := gC
  refine D.cal sc_parts_of (fun vs H Q E h => ?_) (fun f cdv A outer s H vs Q E hr h => ?_)
  · obtain ⟨v, t, rfl, _⟩ := h
    rfl
  obtain ⟨v, t, rfl, hT, hl, q⟩ := h
  refine ⟨_, pss_cons (ps_if (pt_cmpR (op_in_kd KD) (pe_ix ix_tup (pv 0) pe_int (fun _ _ => rfl)) (pe_glob (v := .ref d) rfl gO rfl) rfl) (pss_one (ps_ret (pe_slice sl_tupA (pv 0) (po_some pe_int) po_none))) pss_nil)
    (pss_cons (ps_if (pt_cmpR op_in_seq (pe_ix ix_tup (pv 0) pe_int (fun _ _ => rfl)) (pe_glob (v := .ref dc) rfl gC rfl) rfl) (pss_one (ps_ret (pe_ix ix_tup (pv 0) pe_int (fun _ _ => rfl)))) pss_nil)
    (pss_one (ps_ret (pe_tup pa_nil)))), ?_⟩
  obtain ⟨a, r, rfl, ha⟩ := hT.head
  obtain ⟨x, hx, hx2⟩ := hin t.word
  refine ⟨_, rfl, a, _, 0, _, rfl, rfl, SqT.of ha, at0, t.word, x, rfl, rfl, hx, _, rfl, ?_⟩
  rw [hx2]
  cases hT with
  | @op _ o ws ts h hs =>
    rw [show decide ((Tm.node (.op o) ts).word ∈ opWords) = true from op_in o]
    refine iteT ⟨_, rfl, 1, rfl, a, _, rfl, SqT.of h, fun z => ?_, fun _ p hp => ?_⟩
    · have z1 : HT.sIx (V.str o.str :: ws).length 0 (some ((1 : Nat) : Int)) = 0 := z.1
      rw [HT.sIx_nat, List.length_cons] at z1
      omega
    · have e1 : cutV (V.str o.str :: ws) (some 1) none = ws := by
        show cutV (V.str o.str :: ws) (some ((1 : Nat) : Int)) none = ws
        unfold cutV
        rw [HT.sIx_nat, HT.sIx_none, List.length_cons, Nat.min_eq_left (by omega)]
        show (List.take (ws.length + 1 - 1) ws) = ws
        exact List.take_length
      rw [e1]
      exact q _ p ws (Ex.new hp) upd_same (hs.ex (Ex.new hp))
  | num h =>
    refine iteF ⟨_, rfl, a, _, 0, _, rfl, rfl, SqT.of h, rfl, dc, _, rfl, .inr (hC _), rfl, rfl, _, rfl, iteF ⟨sz 0, fun p2 hp2 => ?_⟩⟩
    exact q _ p2 [] (Ex.new hp2) upd_same .nil
  | arg h =>
    refine iteF ⟨_, rfl, a, _, 0, _, rfl, rfl, SqT.of h, rfl, dc, _, rfl, .inr (hC _), rfl, rfl, _, rfl, iteF ⟨sz 0, fun p2 hp2 => ?_⟩⟩
    exact q _ p2 [] (Ex.new hp2) upd_same .nil
  | @call _ b m ws ts h h2 hs =>
    refine iteF ⟨_, rfl, a, _, 0, _, rfl, rfl, SqT.of h, rfl, dc, _, rfl, .inr (hC _), rfl, rfl, _, rfl, iteT ⟨_, rfl, a, _, 2, _, rfl, rfl, SqT.of h, rfl, ?_⟩⟩
    exact q _ b ws (Ex.refl H) h2 hs
  | @ring _ b m ws ts h h2 hs =>
    refine iteF ⟨_, rfl, a, _, 0, _, rfl, rfl, SqT.of h, rfl, dc, _, rfl, .inr (hC _), rfl, rfl, _, rfl, iteT ⟨_, rfl, a, _, 2, _, rfl, rfl, SqT.of h, rfl, ?_⟩⟩
    exact q _ b ws (Ex.refl H) h2 hs
end
end V


set_option Elab.async false
set_option linter.all false
set_option maxRecDepth 100000
set_option maxHeartbeats 4000000
namespace V
open PySem PySem.Spec PyProof.Rows L2 Evl

end V


set_option Elab.async false
set_option linter.all false
set_option maxRecDepth 100000
set_option maxHeartbeats 4000000
namespace V
open PySem PySem.Spec PyProof.Rows L2 Evl
section
variable {P : Program} {w : World} {K : PySem.W.Frag} {mg : Str → Option Value} {base : Heap}
theorem ok_all (D : Def K mg "terms_of" s_terms_of ["term"]) (GP : Cal P w K mg base 1 "parts_of" ["term"] spParts) : ∀ n : Nat, Cal P w K mg base (n + 1) "terms_of" ["term"] (spAll n)
  | 0 => (D.never fun vs H Q E h => by
      obtain ⟨v, t, M, _, _, _, h1, _⟩ := h
      have := deep_pos t
      omega).mono (Nat.zero_le _)
  | n + 1 => by
    have G := ok_all D GP n
    refine D.cal sc_terms_of (fun vs H Q E h => ?_) (fun f cdv A outer s H vs Q E hr h => ?_)
    · obtain ⟨v, t, M, rfl, _⟩ := h
      rfl
    obtain ⟨v, t, M, rfl, hT, hO, hd, hz, q⟩ := h
    refine ⟨_, pss_cons (ps_set (i := 1) sc_terms_of.nd rfl (.inl rfl) (pe_lst (pa_cons (pv 0) pa_nil)))
      (pss_cons (ps_for PassesOwn.never rfl (pi_tup (pe_fn GP hr (by omega) (pa_cons (pv 0) pa_nil))) (pg_name (i := 2) sc_terms_of.nd rfl (.inl rfl))
        (pss_one (ps_expr (pe_bm PySem.F.plainAttrs_list PySem.F.slot_list_extend PySem.F.type_list_extend mt_extend (pv 1) (pa_cons (pe_fn G hr (by omega) (pa_cons (pv 2) pa_nil)) pa_nil)))))
      (pss_one (ps_ret (pv 1)))), ?_⟩
    refine ⟨_, rfl, sz 1, fun l nl => ?_⟩
    have e1 : Ex H (upd H l (.lst [v])) := Ex.new nl
    refine ⟨_, rfl, v, t, rfl, hT.ex e1, hO.few, fun H2 p us e2 h2 hus => ?_⟩
    have hlen : us.length = t.parts.length := hus.length
    refine ⟨p, rfl, ⟨us, SqT.of h2⟩, for_tup (xs := us) (fun i σ H3 => ∃ (y : Option V) (ws : List V), σ = [some v, some (.ref l), y] ∧ Ex H H3 ∧ Tu H2 H3 ∧ H3 l = some (.lst ws) ∧ TmsAt H3 ws (t :: Tm.alls (t.parts.take i)))
      ⟨none, [v], rfl, e1.trans e2, Tu.refl _, e2 l _ upd_same, .cons (hT.ex (e1.trans e2)) .nil⟩ (fun i σ H3 _ ⟨_, _, _, _, t3, _⟩ => SqT.of (t3 p _ h2)) ?_ ?_⟩
    · rintro i x σ H3 hi ⟨y, ws, rfl, e3, t3, hl, hws⟩
      obtain ⟨u, hu, hxu⟩ := hus.get hi
      have hum := get_mem hu
      have usz : u.size ≤ Tm.sizes t.parts := size_mem hum
      have tsz := size_parts t
      refine ⟨_, rfl, .inl ⟨rfl, ws, SqL.of hl⟩, _, rfl, x, u, M, rfl, hxu.tu t3, hO.parts hum, by have := parts_deep hum; omega, by omega, fun H4 p4 us4 n4 e4 h4 hus4 => ?_⟩
      have lw : ws.length ≤ 1000 := by
        rw [hws.length, List.length_cons, alls_len]
        have := sizes_take t.parts i
        omega
      have lu : us4.length ≤ 1000 := by
        rw [hus4.length, all_len]
        omega
      have hl4 := e4 l _ hl
      refine ⟨l, p4, ws, us4, rfl, rfl, hl4, h4, Nat.le_trans (Nat.add_le_add lw lu) (by decide), ?_⟩
      have tu4 : Tu H4 (upd H4 l (.lst (ws ++ us4))) := But.tu (But.upd (But.refl l H4)) hl4
      refine ⟨some x, ws ++ us4, rfl, Ex.mut (e3.trans e4) nl, t3.trans ((Tu.of e4).trans tu4), upd_same, ?_⟩
      rw [take_more hu, alls_append]
      have : Tm.alls [u] = u.all := List.append_nil _
      rw [this]
      exact ((hws.ex e4).tu tu4).append (hus4.tu tu4)
    · rintro σ H3 ⟨y, ws, rfl, e3, t3, hl, hws⟩
      rw [hlen, List.take_length, ← all_parts] at hws
      exact ⟨_, rfl, q H3 l ws nl e3 hl hws⟩
end
end V


set_option Elab.async false
set_option linter.all false
set_option maxRecDepth 100000
set_option maxHeartbeats 4000000
namespace V
open PySem PySem.Spec PyProof.Rows L2 Evl
open VS in
section
variable {P : Program} {w : World} {K : PySem.W.Frag} {mg : Str → Option Value} {base : Heap}
theorem scal_str {a b : Str} : scal (.str a) (.str b) = true := rfl
end
end V


set_option Elab.async false
set_option linter.all false
set_option maxRecDepth 100000
set_option maxHeartbeats 4000000
namespace V
open PySem PySem.Spec PyProof.Rows L2 Evl
section
variable {P : Program} {w : World} {K : PySem.W.Frag} {mg : Str → Option Value} {base : Heap}
theorem ok_places {n : Nat} (D : Def K mg "places_of" s_places_of ["term"]) (G : Cal P w K mg base (n + 1) "terms_of" ["term"] (spAll n)) : Cal P w K mg base (n + 2) "places_of" ["term"] (spPlaces n) := by
  refine D.cal sc_places_of (fun vs H Q E h => ?_) (fun f cdv A outer s H vs Q E hr h => ?_)
  · obtain ⟨v, t, M, rfl, _⟩ := h
    rfl
  obtain ⟨v, t, M, rfl, hT, hO, hd, hz, q⟩ := h
  refine ⟨_, pss_one (ps_ret (pe_lc (own := [("inner", 1)]) (g := gName 1) rfl sc_places_of.nd (pi_list (pe_fn G hr (by omega) (pa_cons (pv 0) pa_nil)))
    (blkOk_by (N := N_places_of) (sc := defScope s_places_of) (by decide +kernel)) (fun _ _ _ _ _ => pg_name (i := 1) sc_places_of.nd rfl (.inl rfl))
    (fun _ _ _ _ _ => pts_one (pt_cmpR op_eq (pe_ix (r := rIxT K) ix_tup (pv 1) pe_int (fun _ _ => rfl)) pe_str (nomark _))) (fun _ _ _ _ _ => pe_ix (r := rIxT K) ix_tup (pv 1) pe_int (fun _ _ => rfl)))), ?_⟩
  refine ⟨_, rfl, v, t, M, rfl, hT, hO, hd, hz, fun H1 p us np e1 h1 hus => ⟨p, rfl, ⟨us, SqL.of h1⟩, fun Dl hD => ?_⟩⟩
  have hlen : us.length = t.all.length := hus.length
  refine lc_list (xs := us) (fun i H3 => Ex H1 H3 ∧ H3 Dl = some (.lst (((t.all.take i).flatMap Tm.pl1).map fun k : Nat => V.int (k : Int)))) ⟨Ex.new hD, upd_same⟩ (fun i H3 _ k => SqL.of (k.1 p _ h1)) ?_ ?_
  · rintro i x H3 hi ⟨e3, h3⟩
    obtain ⟨u, hu, hxu⟩ := hus.get hi
    have hx3 := hxu.ex e3
    have bnd : ((t.all.take i).flatMap Tm.pl1).length ≤ i := by
      have : ∀ l : List Tm, (l.flatMap Tm.pl1).length ≤ l.length := by
        intro l
        induction l with
        | nil => exact Nat.zero_le _
        | cons c l ih =>
          rw [List.flatMap_cons, List.length_append, List.length_cons]
          have h1 : c.pl1.length ≤ 1 := by
            unfold Tm.pl1
            split <;> simp
          omega
      have h1 := this (t.all.take i)
      rw [List.length_take] at h1
      omega
    have hi2 := (List.getElem?_eq_some_iff.mp hu).1
    have lt : (((t.all.take i).flatMap Tm.pl1).map fun k : Nat => V.int (k : Int)).length < sizeLine := by
      rw [List.length_map]
      rw [all_len] at hi2
      exact small1000 (by omega)
    refine ⟨rfl, ?_⟩
    have no : ∀ {a : Addr} {r : List V} {wd : Str}, x = .ref a → H3 a = some (.tup (.str wd :: r)) → wd ≠ "ring" → u.pl1 = [] →
        (tTest (tOp rEq (tOp (rIxT K) (tVar 1) (tC (.int 0))) (tC (.str "ring")))) [some v, some x] H3 fun b H3' => if b = true then (tOp (rIxT K) (tVar 1) (tC (.int 1))) [some v, some x] H3' fun y H4 => ∃ acc, H4 Dl = some (.lst acc) ∧ acc.length < sizeLine ∧
          (Ex H1 (upd H4 Dl (.lst (acc ++ [y]))) ∧ upd H4 Dl (.lst (acc ++ [y])) Dl = some (.lst (((t.all.take (i + 1)).flatMap Tm.pl1).map fun k : Nat => V.int (k : Int))))
          else (Ex H1 H3' ∧ H3' Dl = some (.lst (((t.all.take (i + 1)).flatMap Tm.pl1).map fun k : Nat => V.int (k : Int)))) := by
      rintro a r wd rfl ha ne e0
      refine ⟨_, rfl, a, _, 0, _, rfl, rfl, SqT.of ha, at0, rfl, _, rfl, ?_⟩
      rw [decide_eq_false (fun z => ne (V.str.inj z))]
      refine iteF ⟨e3, ?_⟩
      rw [take_flat hu, e0, List.append_nil]
      exact h3
    cases hx3 with
    | num h => exact no rfl h (by decide +kernel) rfl
    | arg h => exact no rfl h (by decide +kernel) rfl
    | @op _ o _ _ h _ => exact no rfl h (by cases o <;> decide +kernel) rfl
    | call h _ _ => exact no rfl h (by decide +kernel) rfl
    | @ring a b k ws ts h h2 hs =>
      refine ⟨_, rfl, a, _, 0, _, rfl, rfl, SqT.of h, rfl, rfl, _, rfl, ?_⟩
      rw [decide_eq_true rfl]
      refine iteT ⟨_, rfl, a, _, 1, _, rfl, rfl, SqT.of h, rfl, _, h3, lt, Ex.mut e3 hD, ?_⟩
      rw [upd_same, take_flat hu, List.map_append]
      rfl
  · rintro H3 ⟨e3, h3⟩
    rw [hlen, List.take_length] at h3
    exact q H3 Dl (fresh_back e1 hD) (e1.trans e3) h3
end
end V


set_option Elab.async false
set_option linter.all false
set_option maxRecDepth 100000
set_option maxHeartbeats 4000000
namespace V
open PySem PySem.Spec PyProof.Rows L2 Evl TL NumText
section
variable {P : Program} {w : World} {K : PySem.W.Frag} {mg : Str → Option Value} {base : Heap}
theorem ok_leads (T : Txt K w mg) {k : Nat} (G_places_of : Cal P w K mg base k "places_of" ["term"] (spPlaces 8)) : Cal P w K mg base (k + 1) "leads_of" ["bodies"] (spLeads K) := by
  refine T.D_leads_of.cal sc_leads_of (fun vs H Q E h => ?_) (fun f cdv A outer s H vs Q E hr h => ?_)
  · obtain ⟨a, xs, bs, rfl, _⟩ := h
    rfl
  obtain ⟨a, xs, bs, rfl, hq, hb, hl, ok, q⟩ := h
  refine ⟨_, (pss_one (ps_ret (pe_lc (own := [("_", 1), ("term", 2)]) (g := (gTup K 2 (gCons (gName 1) (gCons (gName 2) gNil)))) (tt := tYes) rfl sc_leads_of.nd (pi_seq (pv 0)) (blkOk_by (N := N_leads_of) (sc := defScope s_leads_of) (by decide +kernel)) (fun _ _ _ _ _ => (pg_tup rfl (pgs_cons (pg_name (i := 1) sc_leads_of.nd rfl (.inl rfl)) (pgs_cons (pg_name (i := 2) sc_leads_of.nd rfl (.inl rfl)) pgs_nil)))) (fun _ _ _ _ _ => pts_nil) (fun _ _ _ _ _ => (pe_fn G_places_of hr (by omega) (pa_cons (pv 2) pa_nil)))))), ?_⟩
  have lx := hb.len
  have lb : xs.length ≤ 100 := by omega
  have core : ∀ (Dl : Addr), H Dl = none → ∀ i x H3, xs[i]? = some x → (Ex H H3 ∧ ∃ ws, H3 Dl = some (.lst ws) ∧ DpAll K (wo Dl H3) ws ((bs.take i).map fun x => intsD x.2.places)) →
      ∃ (y : Nat × Tm) (p : Addr) (tv : V), bs[i]? = some y ∧ x = .ref p ∧ H3 p = some (.tup [.int (y.1 : Int), tv]) ∧ TmAt H3 tv y.2 := fun Dl hD i x H3 hi ⟨e3, _⟩ => by
    obtain ⟨y, hy, hb2⟩ := hb.get hi
    obtain ⟨p, tv, h1, h2, h3⟩ := hb2.ex e3
    exact ⟨y, p, tv, hy, h1, h2, h3⟩
  have fin : ∀ (Dl : Addr) (H3 : Hp), H Dl = none → (Ex H H3 ∧ ∃ ws, H3 Dl = some (.lst ws) ∧ DpAll K (wo Dl H3) ws ((bs.take xs.length).map fun x => intsD x.2.places)) → Q (.ref Dl) H3 := fun Dl H3 hD ⟨e3, ws, h3, hw⟩ => by
    rw [lx, List.take_length] at hw
    refine q H3 Dl hD e3 (.lst (SqL.of h3) ?_)
    unfold leadsF
    rw [List.map_map]
    exact dps_ex wo_le hw
  have turn : ∀ (Dl : Addr), H Dl = none → ∀ i (y : Nat × Tm) H3 H4 p, bs[i]? = some y → (Ex H H3 ∧ ∃ ws, H3 Dl = some (.lst ws) ∧ DpAll K (wo Dl H3) ws ((bs.take i).map fun x => intsD x.2.places)) → H3 p = none → Ex H3 H4 → H4 p = some (.lst (intsV y.2.places)) →
      ∃ acc, H4 Dl = some (.lst acc) ∧ acc.length < sizeLine ∧ (Ex H (upd H4 Dl (.lst (acc ++ [.ref p]))) ∧ ∃ ws, (upd H4 Dl (.lst (acc ++ [.ref p]))) Dl = some (.lst ws) ∧ DpAll K (wo Dl (upd H4 Dl (.lst (acc ++ [.ref p])))) ws ((bs.take (i + 1)).map fun x => intsD x.2.places)) := fun Dl hD i y H3 H4 p hy ⟨e3, ws, h3, hw⟩ hp e4 h4 => by
    have nD : p ≠ Dl := fun z => by
      rw [z, h3] at hp
      cases hp
    have same : wo Dl (upd H4 Dl (.lst (ws ++ [.ref p]))) = wo Dl H4 := by
      funext c
      by_cases z : c = Dl
      · unfold wo
        rw [if_pos z, if_pos z]
      · rw [wo_ne z, wo_ne z, upd_ne z]
    have lw := dps_len hw
    rw [List.length_map, List.length_take] at lw
    refine ⟨ws, e4 _ _ h3, Nat.lt_of_le_of_lt (show ws.length ≤ 1000 by omega) (by decide), Ex.mut (e3.trans e4) hD, _, upd_same, ?_⟩
    rw [same, take_more hy, List.map_append]
    refine dps_app (dps_ex (wo_ex e4) hw) (.cons (dp_ints ?_) .nil)
    rw [wo_ne nD]
    exact h4
  refine ⟨_, rfl, a, xs, rfl, ?_⟩
  rcases hq with hq | hq
  · refine .inl ⟨hq, fun Dl hD => ?_⟩
    refine lc_list (xs := xs) (fun i H3 => Ex H H3 ∧ ∃ ws, H3 Dl = some (.lst ws) ∧ DpAll K (wo Dl H3) ws ((bs.take i).map fun x => intsD x.2.places)) ⟨Ex.new hD, [], upd_same, .nil⟩ (fun i H3 _ k => ex_l k.1 hq) ?_ fun H3 k => fin Dl H3 hD k
    rintro i x H3 hi k
    obtain ⟨y, p, tv, hy, rfl, h2, h3⟩ := core Dl hD i x H3 hi k
    obtain ⟨o1, o2, o3⟩ := ok y (get_mem hy)
    refine ⟨p, _, rfl, SqT.of h2, rfl, _, _, rfl, _, _, rfl, rfl, rfl, yes ⟨_, rfl, tv, y.2, 11, rfl, h3, o1, o2, o3, fun H4 p4 hp4 e4 h4 => turn Dl hD i y H3 H4 p4 hy k hp4 e4 h4⟩⟩
  · refine .inr ⟨hq, fun Dl hD => ?_⟩
    refine lc_tup (xs := xs) (fun i H3 => Ex H H3 ∧ ∃ ws, H3 Dl = some (.lst ws) ∧ DpAll K (wo Dl H3) ws ((bs.take i).map fun x => intsD x.2.places)) ⟨Ex.new hD, [], upd_same, .nil⟩ (fun i H3 _ k => ex_t k.1 hq) ?_ fun H3 k => fin Dl H3 hD k
    rintro i x H3 hi k
    obtain ⟨y, p, tv, hy, rfl, h2, h3⟩ := core Dl hD i x H3 hi k
    obtain ⟨o1, o2, o3⟩ := ok y (get_mem hy)
    refine ⟨p, _, rfl, SqT.of h2, rfl, _, _, rfl, _, _, rfl, rfl, rfl, yes ⟨_, rfl, tv, y.2, 11, rfl, h3, o1, o2, o3, fun H4 p4 hp4 e4 h4 => turn Dl hD i y H3 H4 p4 hy k hp4 e4 h4⟩⟩
end
end V


set_option Elab.async false
set_option linter.all false
set_option maxRecDepth 100000
set_option maxHeartbeats 4000000
namespace V
open PySem PySem.Spec PyProof.Rows L2 Evl TL NumText
section
variable {P : Program} {w : World} {K : PySem.W.Frag} {mg : Str → Option Value} {base : Heap}
theorem ok_nums (T : Txt K w mg) : Cal P w K mg base 1 "numbers_of" ["things"] (spNums K) := by
  refine T.D_numbers_of.cal sc_numbers_of (fun vs H Q E h => ?_) (fun f cdv A outer s H vs Q E hr h => ?_)
  · obtain ⟨v, ds, rfl, _⟩ := h
    rfl
  obtain ⟨v, ds, rfl, hd, hl, hc, q⟩ := h
  refine ⟨_, (pss_cons (ps_set (i := 1) sc_numbers_of.nd rfl (.inr rfl) (pe_lst pa_nil))
  (pss_cons (ps_for PassesOwn.never rfl (pi_list (pv 0)) (pg_name (i := 2) sc_numbers_of.nd rfl (.inl rfl))
    (pss_one (ps_if (pt_cmpR (op_notInD (Nat.lt_of_le_of_lt (Nat.add_le_add_left (by decide : 65 ≤ 80) _) (room_u hr))) (pv 2) (pv 1) rfl)
      (pss_one (ps_expr (pe_bm PySem.F.plainAttrs_list PySem.F.slot_list_append PySem.F.type_list_append mt_append (pv 1) (pa_cons (pv 2) pa_nil))))
      pss_nil)))
  (pss_one (ps_ret (pe_lc (own := [("thing", 2)]) (g := (gName 2)) (tt := tYes) rfl sc_numbers_of.nd (pi_list (pv 0)) (blkOk_by (N := N_numbers_of) (sc := defScope s_numbers_of) (by decide +kernel)) (fun _ _ _ _ _ => (pg_name (i := 2) sc_numbers_of.nd rfl (.inl rfl))) (fun _ _ _ _ _ => pts_nil) (fun _ _ _ _ _ => (pe_indexD (K := K) rfl (Nat.lt_of_le_of_lt (Nat.add_le_add_left (by decide : 65 ≤ 80) _) (room_u hr)) (pv 1) (pa_cons (pv 2) pa_nil)))))))), ?_⟩
  cases hd with
  | @lst a xs _ ha hxs =>
  have lx := dps_len hxs
  refine ⟨sz 0, fun Qm hQ => ?_⟩
  refine ⟨_, rfl, a, rfl, ⟨xs, ex_l (Ex.new hQ) ha⟩, ?_⟩
  have cm : ∀ i, ∀ d ∈ metD [] (ds.take i), CmpD d := fun i d hd => by
    rcases metD_from _ _ _ hd with h | h
    · cases h
    · exact hc d (List.mem_of_mem_take h)
  refine for_list (xs := xs) (fun i σ H' => ∃ y2 ws, σ = [some (.ref a), some (.ref Qm), y2] ∧ Ex H H' ∧ H' Qm = some (.lst ws) ∧ DpAll K H ws (metD [] (ds.take i))) ⟨none, [], rfl, Ex.new hQ, upd_same, .nil⟩ (fun i σ H' _ ⟨y2, ws, _, e, _⟩ => ex_l e ha) ?_ ?_
  · rintro i x σ H2 hi ⟨y2, ws, rfl, e2, h2, hws⟩
    obtain ⟨d, hdi, hdx⟩ := dps_get hxs hi
    have ea : metD [] (ds.take (i + 1)) = (if ((metD [] (ds.take i)).any fun z => PyData.eqv z d) = true then metD [] (ds.take i) else metD [] (ds.take i) ++ [d]) := by
      rw [take_more hdi, metD_add]
    have lw := dps_len hws
    have lm := metD_len (ds.take i) []
    rw [List.length_take] at lm
    refine ⟨_, rfl, _, rfl, d, metD [] (ds.take i), dp_ex e2 hdx, .lst (SqL.of h2) (dps_ex e2 hws), (hc d (get_mem hdi)).shaped, cmp_list (cm i), _, rfl, ?_⟩
    cases c : ((metD [] (ds.take i)).any fun z => PyData.eqv z d) with
    | true =>
      rw [c] at ea
      exact iteF ⟨_, ws, rfl, e2, h2, by rw [ea]; exact hws⟩
    | false =>
      rw [c] at ea
      refine iteT ⟨_, rfl, .inl ⟨rfl, _, SqL.of h2⟩, _, rfl, Qm, ws, x, rfl, rfl, h2, Nat.lt_of_le_of_lt (show ws.length ≤ 1000 by have e0 : ([] : List PyData).length = 0 := rfl; omega) (by decide), _, ws ++ [x], rfl, Ex.mut e2 hQ, upd_same, by rw [ea]; exact dps_app hws (.cons hdx .nil)⟩
  · rintro σ H2 ⟨y2, ws, rfl, e2, h2, hws⟩
    rw [lx, List.take_length] at hws
    have cM := cm ds.length
    rw [List.take_length] at cM
    refine ⟨_, rfl, a, rfl, ⟨xs, ex_l e2 ha⟩, fun Dl hD => ?_⟩
    refine lc_list (xs := xs) (fun i H3 => Ex H2 H3 ∧ H3 Dl = some (.lst (intsV ((ds.take i).map (numOfD (metD [] ds)))))) ⟨Ex.new hD, upd_same⟩ (fun i H3 _ k => ex_l (e2.trans k.1) ha) ?_ ?_
    · rintro i x H3 hi ⟨e3, h3⟩
      obtain ⟨d, hdi, hdx⟩ := dps_get hxs hi
      have cd := hc d (get_mem hdi)
      have has := metD_has SeqAt.eqv_refl ds [] d cd.1 (get_mem hdi)
      have jl : numOfD (metD [] ds) d < (metD [] ds).length := List.findIdx_lt_length_of_exists (List.any_eq_true.mp has)
      have e23 := e2.trans e3
      refine ⟨rfl, yes ⟨_, rfl, .inl ⟨rfl, _, SqL.of (e3 _ _ h2)⟩, _, rfl, Qm, x, d, metD [] ds, numOfD (metD [] ds) d, _, rfl, rfl, .lst (SqL.of (e3 _ _ h2)) (dps_ex e23 hws), dp_ex e23 hdx, cmp_list cM, cd.shaped, List.getElem?_eq_getElem jl, List.findIdx_getElem (w := jl), fun m z' hm hz => ?_, _, h3, ?_, Ex.mut e3 hD, ?_⟩⟩
      · obtain ⟨hm2, rfl⟩ := List.getElem?_eq_some_iff.mp hz
        have := List.not_of_lt_findIdx hm
        simpa using this
      · exact Nat.lt_of_le_of_lt (show (intsV ((ds.take i).map (numOfD (metD [] ds)))).length ≤ 1000 by unfold intsV; rw [List.length_map, List.length_map, List.length_take]; omega) (by decide)
      · rw [upd_same, take_more hdi, List.map_append]
        unfold intsV
        rw [List.map_append]
        rfl
    · rintro H3 ⟨e3, h3⟩
      rw [lx, List.take_length] at h3
      exact q H3 Dl (fresh_back e2 hD) (e2.trans e3) h3
end
end V


set_option Elab.async false
set_option linter.all false
set_option maxRecDepth 100000
set_option maxHeartbeats 4000000
namespace V
open PySem PySem.Spec PyProof.Rows L2 Evl TL NumText
section
variable {P : Program} {w : World} {K : PySem.W.Frag} {mg : Str → Option Value} {base : Heap}
theorem ok_with (T : Txt K w mg) (G_parts_of : Cal P w K mg base 1 "parts_of" ["term"] spParts) : ∀ n : Nat, Cal P w K mg base (n + 2) "with_heads" ["term", "heads"] (spWith n) := by
  have main : ∀ (n j : Nat) (hj : j ≤ n + 1) (sp : Sp) (imp : ∀ m vs H Q E, n = m + 1 → spWith m vs H Q E → sp vs H Q E) (G_with_heads : Cal P w K mg base j "with_heads" ["term", "heads"] sp), Cal P w K mg base (n + 2) "with_heads" ["term", "heads"] (spWith n) := by
    intro n j hj sp imp G_with_heads
    obtain ⟨d_OPERATIONS, es, nn, g_OPERATIONS, KD, hin, hval⟩ := T.O.ex
    obtain ⟨dC, gC, hC⟩ := T.g_CALLS
    refine T.D_with_heads.cal sc_with_heads (fun vs H Q E h => ?_) (fun f cdv A outer s H vs Q E hr h => ?_)
    · obtain ⟨v, t, a, hf, N, rfl, _⟩ := h
      rfl
    obtain ⟨v, t, a, hf, N, rfl, hT, ok, hn, hH, hp, q⟩ := h
    refine ⟨_, (pss_cons (ps_set (i := 2) sc_with_heads.nd rfl (.inl rfl) (pe_bt call_tuple_of T.z_tuple (pa_cons (pe_lc (own := [("part", 5)]) (g := (gName 5)) (tt := tYes) rfl sc_with_heads.nd (pi_tup (pe_fn G_parts_of hr (by omega) (pa_cons (pv 0) pa_nil))) (blkOk_by (N := N_with_heads) (sc := defScope s_with_heads) (by decide +kernel)) (fun _ _ _ _ _ => (pg_name (i := 5) sc_with_heads.nd rfl (.inl rfl))) (fun _ _ _ _ _ => pts_nil) (fun _ _ _ _ _ => (pe_fn G_with_heads hr (by omega) (pa_cons (pv 5) (pa_cons (pv 1) pa_nil))))) pa_nil)))
  (pss_cons (ps_if (pt_cmpR op_in_seq (pe_ix (r := rIxT K) ix_tup (pv 0) pe_int (fun _ _ => rfl)) (pe_glob (v := .ref dC) rfl gC rfl) rfl)
    (pss_cons (ps_asg (pe_dget2 (Nat.lt_of_le_of_lt (Nat.add_le_add_left (by decide : 1 ≤ 80) _) (room_u hr)) (pv 1) (pe_slice sl_tupA (pv 0) po_none (po_some pe_int)) (pe_slice sl_tupA (pv 0) po_none (po_some pe_int)) ⟨rfl, rfl, rfl, rfl⟩) (pg_tup rfl (pgs_cons (pg_name (i := 3) sc_with_heads.nd rfl (.inl rfl)) (pgs_cons (pg_name (i := 4) sc_with_heads.nd rfl (.inl rfl)) pgs_nil))))
    (pss_one (ps_ret (pe_tup (pa_cons (pv 3) (pa_cons (pv 4) (pa_cons (pv 2) pa_nil)))))))
    pss_nil)
  (pss_cons (ps_if (pt_cmpR (op_in_kd KD) (pe_ix (r := rIxT K) ix_tup (pv 0) pe_int (fun _ _ => rfl)) (pe_glob (v := .ref d_OPERATIONS) rfl g_OPERATIONS rfl) rfl)
    (pss_one (ps_ret (pe_tup (pa_cons (pe_ix (r := rIxT K) ix_tup (pv 0) pe_int (fun _ _ => rfl)) (StX.pa_star (pv 2) pa_nil)))))
    pss_nil)
  (pss_one (ps_ret (pv 0)))))), ?_⟩
    have lp := parts_few ok
    refine ⟨_, rfl, v, t, rfl, hT, lp, fun H1 p us e1 h1 hus => ⟨p, rfl, ⟨us, SqT.of h1⟩, fun Dl hD => ?_⟩⟩
    have lu := hus.length
    refine lc_tup (xs := us) (fun i H3 => Ex H1 H3 ∧ ∃ ws, H3 Dl = some (.lst ws) ∧ TmsAt H3 ws ((t.parts.take i).map (Tm.re hf))) ⟨Ex.new hD, [], upd_same, .nil⟩ (fun i H3 _ k => SqT.of (k.1 _ _ h1)) ?_ ?_
    · rintro i x H3 hi ⟨e3, ws, h3, hw⟩
      obtain ⟨u, hu, gu⟩ := hus.get hi
      have mu := get_mem hu
      have du := parts_deep mu
      obtain ⟨n', rfl⟩ : ∃ n', n = n' + 1 := ⟨n - 1, by omega⟩
      have lw := hw.length
      rw [List.length_map, List.length_take] at lw
      refine ⟨rfl, yes ⟨_, rfl, _, rfl, imp n' _ _ _ _ rfl ⟨x, u, a, hf, N, rfl, gu.ex e3, parts_ok ok mu, by omega, hH.ex (e1.trans e3), fun p hp2 => hp p (places_sub mu p hp2), fun H4 v' e4 g4 => ?_⟩⟩⟩
      have tu : Tu H4 (upd H4 Dl (.lst (ws ++ [v']))) := (But.upd (But.refl Dl H4)).tu (e4 _ _ h3)
      refine ⟨ws, e4 _ _ h3, small1000 (by omega), Ex.mut (e3.trans e4) hD, _, upd_same, ?_⟩
      rw [take_more hu, List.map_append]
      exact ((hw.ex e4).tu tu).append (.cons (g4.tu tu) .nil)
    · rintro H3 ⟨e3, ws, h3, hw⟩
      rw [lu, List.take_length] at hw
      refine ⟨Dl, ws, rfl, .inl ⟨SqL.of h3, fun l hl => ?_⟩⟩
      have f4 := Ex.new (o := .tup ws) hl
      have e4 := e1.trans (e3.trans f4)
      have hw4 := hw.ex f4
      have hl4 : (upd H3 l (.tup ws)) l = some (.tup ws) := upd_same
      generalize upd H3 l (.tup ws) = H4 at e4 f4 hw4 hl4 ⊢
      have hT4 := hT.ex e4
      obtain ⟨b, r, rfl, hb⟩ := hT4.head
      have lw : ws.length ≤ 4 := by rw [hw4.length, List.length_map]; exact lp
      have sz5 : ∀ k : Nat, k ≤ 10 → k ≤ sizeLine := fun k hk => sz k (by omega)
      refine ⟨_, rfl, b, _, 0, _, rfl, rfl, SqT.of hb, at0, dC, _, rfl, .inr (hC _), rfl, rfl, _, rfl, ?_⟩
      obtain ⟨kvs, hk, hk2, hk3⟩ := hH.ex e4
      cases hT4 with
      | @num _ m g1 =>
        obtain ⟨x, hx, hx2⟩ := hin (Tm.num m).word
        refine iteF ⟨_, rfl, b, _, 0, _, rfl, rfl, SqT.of hb, at0, _, x, rfl, rfl, hx, _, rfl, ?_⟩
        rw [hx2, show decide ((Tm.num m).word ∈ opWords) = false by show decide (("num" : Str) ∈ opWords) = false; decide +kernel]
        exact iteF ⟨_, rfl, q _ _ e4 (.num g1)⟩
      | @arg _ m g1 =>
        obtain ⟨x, hx, hx2⟩ := hin (Tm.arg m).word
        refine iteF ⟨_, rfl, b, _, 0, _, rfl, rfl, SqT.of hb, at0, _, x, rfl, rfl, hx, _, rfl, ?_⟩
        rw [hx2, show decide ((Tm.arg m).word ∈ opWords) = false by show decide (("arg" : Str) ∈ opWords) = false; decide +kernel]
        exact iteF ⟨_, rfl, q _ _ e4 (.arg g1)⟩
      | @op _ o ws2 ts g1 gs =>
        rw [show inV (.str (Tm.node (.op o) ts).word) [.str "call", .str "ring", .str "name"] = false by show inV (.str o.str) [.str "call", .str "ring", .str "name"] = false; cases o <;> decide +kernel]
        obtain ⟨x, hx, hx2⟩ := hin (Tm.node (.op o) ts).word
        refine iteF ⟨_, rfl, b, _, 0, _, rfl, rfl, SqT.of hb, at0, _, x, rfl, rfl, hx, _, rfl, ?_⟩
        rw [hx2, show decide ((Tm.node (.op o) ts).word ∈ opWords) = true from op_in o]
        refine iteT ⟨_, rfl, b, _, 0, _, rfl, rfl, SqT.of hb, at0, _, rfl, l, ws, rfl, .inl (SqT.of hl4), sz _ (by rw [List.append_nil, List.length_cons]; omega), fun p3 hp3 => ?_⟩
        have f5 := Ex.new (o := .tup (.str (Tm.node (.op o) ts).word :: (ws ++ []))) hp3
        refine q _ _ (e4.trans f5) ?_
        show TmAt _ (.ref p3) (.node (.op o) (Tm.res hf ts))
        rw [res_map]
        refine .op ?_ (hw4.ex f5)
        rw [upd_same, List.append_nil]
        rfl
      | @call _ c m ws2 ts g1 g2 gs =>
        refine iteT ⟨_, rfl, _, rfl, .inr ⟨kvs, .inl hk⟩, _, rfl, 2, rfl, b, _, rfl, SqT.of g1, fun y => (two_of3 _ _ _ y).elim, fun _ k1 hk1 => ?_⟩
        have f6 := Ex.new (o := .tup (cutV [V.str "call", .str m, .ref c] none (some 2))) hk1
        have h6 : (upd H4 k1 (.tup (cutV [V.str "call", .str m, .ref c] none (some 2)))) k1 = some (.tup ((callK m).map kV)) := upd_same
        generalize upd H4 k1 (.tup (cutV [V.str "call", .str m, .ref c] none (some 2))) = H6 at f6 h6 ⊢
        refine ⟨_, rfl, 2, rfl, b, _, rfl, SqT.of (f6 _ _ g1), fun y => (two_of3 _ _ _ y).elim, fun _ k2 hk2 => ?_⟩
        have f7 := Ex.new (o := .tup (cutV [V.str "call", .str m, .ref c] none (some 2))) hk2
        have h7 : (upd H6 k2 (.tup (cutV [V.str "call", .str m, .ref c] none (some 2)))) k2 = some (.tup [.str "call", .str m]) := upd_same
        generalize upd H6 k2 (.tup (cutV [V.str "call", .str m, .ref c] none (some 2))) = H7 at f7 h7 ⊢
        refine ⟨_, DGet.t (f7 _ _ (f6 _ _ hk)) (f7 _ _ h6), ?_⟩
        rw [hk3 m]
        refine ⟨k2, _, rfl, SqT.of h7, rfl, _, _, rfl, _, _, rfl, rfl, _, rfl, _, rfl, _, rfl, sz 3, fun p3 hp3 => ?_⟩
        have f5 := Ex.new (o := .tup [.str "call", .str m, .ref l]) hp3
        have e7 := f6.trans f7
        refine q _ _ (e4.trans (e7.trans f5)) ?_
        show TmAt _ (.ref p3) (.node (.call m) (Tm.res hf ts))
        rw [res_map]
        exact .call upd_same (f5 _ _ (e7 _ _ hl4)) (hw4.ex (e7.trans f5))
      | @ring _ c m ws2 ts g1 g2 gs =>
        obtain ⟨qa, a1, a2, a3⟩ := hk2 m (hp m (by rw [places_node]; exact List.mem_append.mpr (.inl (List.mem_cons_self ..))))
        refine iteT ⟨_, rfl, _, rfl, .inr ⟨kvs, .inl hk⟩, _, rfl, 2, rfl, b, _, rfl, SqT.of g1, fun y => (two_of3 _ _ _ y).elim, fun _ k1 hk1 => ?_⟩
        have f6 := Ex.new (o := .tup (cutV [V.str "ring", .int (m : Int), .ref c] none (some 2))) hk1
        have h6 : (upd H4 k1 (.tup (cutV [V.str "ring", .int (m : Int), .ref c] none (some 2)))) k1 = some (.tup ((ringK m).map kV)) := upd_same
        generalize upd H4 k1 (.tup (cutV [V.str "ring", .int (m : Int), .ref c] none (some 2))) = H6 at f6 h6 ⊢
        refine ⟨_, rfl, 2, rfl, b, _, rfl, SqT.of (f6 _ _ g1), fun y => (two_of3 _ _ _ y).elim, fun _ k2 hk2 => ?_⟩
        have f7 := Ex.new (o := .tup (cutV [V.str "ring", .int (m : Int), .ref c] none (some 2))) hk2
        generalize upd H6 k2 (.tup (cutV [V.str "ring", .int (m : Int), .ref c] none (some 2))) = H7 at f7 ⊢
        have e7 := f6.trans f7
        refine ⟨_, DGet.t (f7 _ _ (f6 _ _ hk)) (f7 _ _ h6), ?_⟩
        rw [a1]
        have ee : (Tm.node (.ring m) ts).re hf = .node (hf m) (Tm.res hf ts) := rfl
        rw [ee, res_map] at q
        have a2 := e7 _ _ a2
        cases hm : hf m with
        | op o => rw [hm] at a3; cases a3
        | call x =>
          rw [hm] at a2 q
          refine ⟨qa, _, rfl, SqT.of a2, rfl, _, _, rfl, _, _, rfl, rfl, _, rfl, _, rfl, _, rfl, sz 3, fun p3 hp3 => ?_⟩
          have f5 := Ex.new (o := .tup [.str "call", .str x, .ref l]) hp3
          exact q _ _ (e4.trans (e7.trans f5)) (.call upd_same (f5 _ _ (e7 _ _ hl4)) (hw4.ex (e7.trans f5)))
        | ring x =>
          rw [hm] at a2 q
          refine ⟨qa, _, rfl, SqT.of a2, rfl, _, _, rfl, _, _, rfl, rfl, _, rfl, _, rfl, _, rfl, sz 3, fun p3 hp3 => ?_⟩
          have f5 := Ex.new (o := .tup [.str "ring", .int (x : Int), .ref l]) hp3
          exact q _ _ (e4.trans (e7.trans f5)) (.ring upd_same (f5 _ _ (e7 _ _ hl4)) (hw4.ex (e7.trans f5)))
  intro n
  induction n with
  | zero => exact main 0 0 (Nat.zero_le _) (fun _ _ _ _ => False) (fun m _ _ _ _ e _ => by cases e) (T.D_with_heads.never fun _ _ _ _ h => h)
  | succ n ih => exact main (n + 1) (n + 2) (Nat.le_refl _) _ (fun m vs H Q E e h => by cases e; exact h) ih
end
end V


set_option Elab.async false
set_option linter.all false
set_option maxRecDepth 100000
set_option maxHeartbeats 4000000
namespace V
open PySem PySem.Spec PyProof.Rows L2 Evl TL NumText
section
variable {P : Program} {w : World} {K : PySem.W.Frag} {mg : Str → Option Value} {base : Heap}
theorem ok_withAll (T : Txt K w mg) (G_with_heads : Cal P w K mg base 10 "with_heads" ["term", "heads"] (spWith 8)) : Cal P w K mg base 11 "with_all_heads" ["bodies", "heads"] (spWithAll K) := by
  refine T.D_with_all_heads.cal sc_with_all_heads (fun vs H Q E h => ?_) (fun f cdv A outer s H vs Q E hr h => ?_)
  · obtain ⟨a, hh, xs, bs, hf, N, rfl, _⟩ := h
    rfl
  obtain ⟨a, hh, xs, bs, hf, N, rfl, hq, hb, hl, ok, hH, hp, q⟩ := h
  refine ⟨_, (pss_one (ps_ret (pe_lc (own := [("many", 2), ("term", 3)]) (g := (gTup K 2 (gCons (gName 2) (gCons (gName 3) gNil)))) (tt := tYes) rfl sc_with_all_heads.nd (pi_seq (pv 0)) (blkOk_by (N := N_with_all_heads) (sc := defScope s_with_all_heads) (by decide +kernel)) (fun _ _ _ _ _ => (pg_tup rfl (pgs_cons (pg_name (i := 2) sc_with_all_heads.nd rfl (.inl rfl)) (pgs_cons (pg_name (i := 3) sc_with_all_heads.nd rfl (.inl rfl)) pgs_nil)))) (fun _ _ _ _ _ => pts_nil) (fun _ _ _ _ _ => (pe_tup (pa_cons (pv 2) (pa_cons (pe_fn G_with_heads hr (by omega) (pa_cons (pv 3) (pa_cons (pv 1) pa_nil))) pa_nil))))))), ?_⟩
  have lx := hb.len
  have fin : ∀ (Dl : Addr) (H3 : Hp), H Dl = none → (Ex H H3 ∧ ∃ ws, H3 Dl = some (.lst ws) ∧ BodsAt H3 ws ((bs.take xs.length).map (reB hf))) → Q (.ref Dl) H3 := fun Dl H3 hD ⟨e3, ws, h3, hw⟩ => by
    rw [lx, List.take_length] at hw
    exact q H3 Dl ws hD e3 h3 hw
  have turn : ∀ (Dl : Addr), H Dl = none → ∀ i x H3, xs[i]? = some x → (Ex H H3 ∧ ∃ ws, H3 Dl = some (.lst ws) ∧ BodsAt H3 ws ((bs.take i).map (reB hf))) →
      ∃ (p : Addr) (vs : List V), x = .ref p ∧ SqT K H3 p vs ∧ vs.length = 2 ∧ ∃ c r, vs = c :: r ∧ ∃ tv r2, r = tv :: r2 ∧ r2 = [] ∧ ∃ y : Nat × Tm, c = .int (y.1 : Int) ∧ spWith 8 [tv, .ref hh] H3 (fun v' H4 => (2 : Nat) ≤ sizeLine ∧ ∀ p2, H4 p2 = none →
        ∃ acc, (upd H4 p2 (.tup [c, v'])) Dl = some (.lst acc) ∧ acc.length < sizeLine ∧ (Ex H (upd (upd H4 p2 (.tup [c, v'])) Dl (.lst (acc ++ [.ref p2]))) ∧ ∃ ws, (upd (upd H4 p2 (.tup [c, v'])) Dl (.lst (acc ++ [.ref p2]))) Dl = some (.lst ws) ∧ BodsAt (upd (upd H4 p2 (.tup [c, v'])) Dl (.lst (acc ++ [.ref p2]))) ws ((bs.take (i + 1)).map (reB hf)))) E0 := fun Dl hD i x H3 hi ⟨e3, ws, h3, hw⟩ => by
    obtain ⟨y, hy, hb2⟩ := hb.get hi
    obtain ⟨p, tv, h1, h2, h4⟩ := hb2.ex e3
    have my := get_mem hy
    refine ⟨p, _, h1, SqT.of h2, rfl, _, _, rfl, _, _, rfl, rfl, y, rfl, tv, y.2, hh, hf, N, rfl, h4, (ok y my).1, (ok y my).2, hH.ex e3, hp y my, fun H4 v' e4 g4 => ⟨sz 2, fun p2 hp2 => ?_⟩⟩
    have f5 := Ex.new (o := .tup [.int (y.1 : Int), v']) hp2
    have lw := hw.len
    rw [List.length_map, List.length_take] at lw
    have hd := (e4.trans f5) _ _ h3
    have tu : Tu (upd H4 p2 (.tup [.int (y.1 : Int), v'])) (upd (upd H4 p2 (.tup [.int (y.1 : Int), v'])) Dl (.lst (ws ++ [.ref p2]))) := (But.upd (But.refl Dl _)).tu hd
    refine ⟨ws, hd, small1000 (by omega), Ex.mut (e3.trans (e4.trans f5)) hD, _, upd_same, ?_⟩
    rw [take_more hy, List.map_append]
    exact ((hw.ex (e4.trans f5)).tu tu).app (.cons (BodAt.tu ⟨p2, v', rfl, upd_same, g4.ex f5⟩ tu) .nil)
  refine ⟨_, rfl, a, xs, rfl, ?_⟩
  rcases hq with hq | hq
  · refine .inl ⟨hq, fun Dl hD => ?_⟩
    refine lc_list (xs := xs) (fun i H3 => Ex H H3 ∧ ∃ ws, H3 Dl = some (.lst ws) ∧ BodsAt H3 ws ((bs.take i).map (reB hf))) ⟨Ex.new hD, [], upd_same, .nil⟩ (fun i H3 _ k => ex_l k.1 hq) ?_ fun H3 k => fin Dl H3 hD k
    rintro i x H3 hi k
    obtain ⟨p, vs, rfl, h1, h2, c, r, rfl, tv, r2, rfl, rfl, y, rfl, go⟩ := turn Dl hD i x H3 hi k
    exact ⟨p, _, rfl, h1, h2, _, _, rfl, _, _, rfl, rfl, rfl, yes ⟨_, rfl, _, rfl, _, rfl, go⟩⟩
  · refine .inr ⟨hq, fun Dl hD => ?_⟩
    refine lc_tup (xs := xs) (fun i H3 => Ex H H3 ∧ ∃ ws, H3 Dl = some (.lst ws) ∧ BodsAt H3 ws ((bs.take i).map (reB hf))) ⟨Ex.new hD, [], upd_same, .nil⟩ (fun i H3 _ k => ex_t k.1 hq) ?_ fun H3 k => fin Dl H3 hD k
    rintro i x H3 hi k
    obtain ⟨p, vs, rfl, h1, h2, c, r, rfl, tv, r2, rfl, rfl, y, rfl, go⟩ := turn Dl hD i x H3 hi k
    exact ⟨p, _, rfl, h1, h2, _, _, rfl, _, _, rfl, rfl, rfl, yes ⟨_, rfl, _, rfl, _, rfl, go⟩⟩
end
end V


set_option Elab.async false
set_option linter.all false
set_option maxRecDepth 100000
set_option maxHeartbeats 4000000
namespace V
open PySem PySem.Spec PyProof.Rows L2
section
variable {X : Cx}
/-- name = {..: .. for ..} in one row, the name a local -/
theorem ps_setDc {i : Nat} {y : Str} {py : Pos} {kx vx tg iter : Expr} {ifs : List Expr} {scope : Scope} {own : List (Str × Nat)} {pos spos : Pos} {wi : TI} {g : TG} {tt : TT} {tk tv : TE} (hc : X.calm = true) (hN : X.N.Nodup) (hy : X.N[i]? = some y) (hyl : X.env.scope.names.lookup y = some .local)
    (hsw : swapsWith (.DictComp kx vx [⟨tg, iter, ifs, 0⟩] scope pos) (some (.Name y py)) spos.line X.env = pure true) (hi : PI X tg iter wi) (ok : BlkOk X.N X.env.scope scope own)
    (hg : ∀ (s : Shared) (H : Hp) (C : Addr) (cl : List (Str × Addr)) (fp : List Addr), PG (X.blk s H scope (compEnvC scope cl C X.env) fp) tg g) (ht : ∀ (s : Shared) (H : Hp) (C : Addr) (cl : List (Str × Addr)) (fp : List Addr), PTs (X.blk s H scope (compEnvC scope cl C X.env) fp) ifs tt)
    (hk : ∀ (s : Shared) (H : Hp) (C : Addr) (cl : List (Str × Addr)) (fp : List Addr), PE (X.blk s H scope (compEnvC scope cl C X.env) fp) kx tk)
    (he : ∀ (s : Shared) (H : Hp) (C : Addr) (cl : List (Str × Addr)) (fp : List Addr), PE (X.blk s H scope (compEnvC scope cl C X.env) fp) vx tv) (hs : ∀ x, foldedSetIterable iter X.env x = pure x := by intro _; rfl) :
    PS X (.Assign [.Name y py] (.DictComp kx vx [⟨tg, iter, ifs, 0⟩] scope pos) spos) (tAsg (tDc wi g tt tk tv (own.map (·.2))) (gName i)) := by
  refine ⟨fun pins s σ H D I h => ?_⟩
  rw [exec_Assign_Name_used _ _ _ _ hsw]
  refine wpAny_bind (wpAny_standAt (wpAny_bind ?_))
  show wpAny _ X.A (do let _ ← comprehension (.DictComp kx vx [⟨tg, iter, ifs, 0⟩] scope pos) scope X.env _ newDict false (eval iter X.env) (some (assign (.Name y py) X.env))) _ _ s
  have h : tDc wi g tt tk tv (own.map (·.2)) σ H (fun x H1 => gName i x σ H1 D.nx) := h
  refine wpAny_bind (thn (dc_core (Qf := fun _ s' => SP X pins D .next s') hc hN I hi ok hg ht hk he hs h fun L C s' m H' I' q hn f => ?_) fun _ s' hq => wpAny_pure (wpAny_pure hq))
  show wpAny _ _ (assign (.Name y py) X.env (.ref L)) _ _ _
  refine wpAny_assign_Name (store_ok2 (v := V.ref L) I' hN hy (.inl hyl) rfl (fun s2 I2 ⟨a, sb, ha⟩ => ?_) (.inr hyl))
  obtain ⟨f0, f1, f2, f3, f4, f5⟩ := f
  have haC : C ≠ a := by
    rcases ha with z | z
    · rw [z]; exact f1
    · exact fun e => f4 y a z e.symm
  refine ⟨m, hn.sameBut sb haC, fun h3 sb3 => ?_⟩
  exact ⟨_, H', I2.turned (t' := s2.toks) (fun b o hb e => (sb3.2 b hb).trans e) f0 f1 f3 f4 f5, q⟩
theorem swd_true {kx vx : Expr} {gs : List Comprehension} {scope : Scope} {pos py : Pos} {y : Str} {l : Nat} {env : Env} (hk : env.scope.kind = .function) (hy : env.scope.names.lookup y = some .local) (hl : (py.line == pos.line) = true)
    (ha : (scope.names.any fun (n, k) => n == y && (k == .local || k == .cell)) = false) : swapsWith (.DictComp kx vx gs scope pos) (some (.Name y py)) l env = pure true := by
  have ky : env.kindOf y = some .local := hy
  have hb : env.blockKind = .function := by unfold Env.blockKind; rw [hk]; rfl
  unfold swapsWith
  simp only [hb, ky, ha, Expr.pos, hl]
  rfl
end
end V


set_option Elab.async false
set_option linter.all false
set_option maxRecDepth 100000
set_option maxHeartbeats 4000000
namespace V
open PySem PySem.Spec PyProof.Rows L2 Evl TL NumText
section
variable {P : Program} {w : World} {K : PySem.W.Frag} {mg : Str → Option Value} {base : Heap}
theorem ok_shapes (T : Txt K w mg) (G_with_all_heads : Cal P w K mg base 11 "with_all_heads" ["bodies", "heads"] (spWithAll K)) : Cal P w K mg base 12 "shapes_of" ["bodies"] (spShapes K) := by
  refine T.D_shapes_of.cal sc_shapes_of (fun vs H Q E h => ?_) (fun f cdv A outer s H vs Q E hr h => ?_)
  · obtain ⟨a, xs, bs, rfl, _⟩ := h
    rfl
  obtain ⟨a, xs, bs, rfl, hq, hb, hl, ok, hp, q⟩ := h
  have room : 81 < cLine := by decide
  refine ⟨_, (pss_cons (ps_setDcT (i := 1) (own := [("place", 2)]) (g := gName 2) (tt := tYes) (Nat.lt_of_le_of_lt (Nat.add_le_add_left (by decide : 1 ≤ 80) _) (room_u hr)) rfl sc_shapes_of.nd rfl rfl (swd_true rfl rfl rfl rfl) (pi_range1 rfl T.z_range (pa_cons (pe_bi call_len_seq T.z_len (pa_cons (pv 0) pa_nil)) pa_nil)) (blkOk_by (N := N_shapes_of) (sc := defScope s_shapes_of) (by decide +kernel))
      (fun _ _ _ _ _ => pg_name (i := 2) sc_shapes_of.nd rfl (.inl rfl)) (fun _ _ _ _ _ => pts_nil) (fun _ _ _ _ _ => pe_tup (pa_cons pe_str (pa_cons (pv 2) pa_nil))) (fun _ _ _ _ _ => pe_tup (pa_cons pe_str (pa_cons pe_int pa_nil))))
    (pss_one (ps_ret (pe_fn G_with_all_heads hr (by omega) (pa_cons (pv 0) (pa_cons (pv 1) pa_nil)))))), ?_⟩
  have lx := hb.len
  have hq2 : SqL K H a xs ∨ SqT K H a xs := hq
  refine ⟨_, rfl, a, xs, rfl, hq2, (xs.length : Int), rfl, by omega, by omega, fun D hD => ?_⟩
  refine dcT_range (n := xs.length) (fun i H3 => Ex H H3 ∧ HdsD H3 D ((List.range i).map fun p => (p, Hd.ring 0))) ⟨Ex.new hD, HdsD.new⟩ ?_ ?_
  · rintro i H3 hi ⟨e3, s3⟩
    refine ⟨rfl, yes ⟨_, rfl, sz 2, fun p1 hp1 => ⟨sz 2, fun p2 hp2 => ?_⟩⟩⟩
    have f1 := Ex.new (o := .tup [.str "ring", .int (0 + (i : Int))]) hp1
    have k1 : (upd H3 p1 (.tup [.str "ring", .int (0 + (i : Int))])) p1 = some (.tup ((ringK i).map kV)) := by
      rw [upd_same, Int.zero_add]
      rfl
    have f2 := Ex.new (o := .tup [.str "ring", .int 0]) hp2
    obtain ⟨kvs, d1, d2⟩ := (s3.ex (f1.trans f2)).put (p := i) (h := .ring 0) (by rw [List.length_map, List.length_range]; omega) (f2 _ _ k1) upd_same
    refine ⟨_, d1, Ex.mut (e3.trans (f1.trans f2)) hD, ?_⟩
    rw [List.range_succ, List.map_append]
    exact d2
  · rintro H3 ⟨e3, s3⟩
    refine ⟨_, rfl, _, rfl, a, D, xs, bs, shapeF, bs.length, rfl, Or.imp (ex_l e3) (ex_t e3) hq2, hb.ex e3, hl, ok, s3.heads fun p hp2 => ⟨lastOf_mem (hf := shapeF) (fun x hx => ?_) ?_, rfl⟩, hp, fun H4 p ws hn e4 h4 g4 => q H4 p ws (fresh_back e3 hn) (e3.trans e4) h4 g4⟩
    · obtain ⟨p, _, rfl⟩ := List.mem_map.mp hx
      rfl
    · rw [List.map_map]
      exact List.mem_map.mpr ⟨p, List.mem_range.mpr (by omega), rfl⟩
end
end V


set_option Elab.async false
set_option linter.all false
set_option maxRecDepth 100000
set_option maxHeartbeats 4000000
namespace V
open PySem PySem.Spec PyProof.Rows L2 Evl TL NumText
section
variable {P : Program} {w : World} {K : PySem.W.Frag} {mg : Str → Option Value} {base : Heap}
theorem ok_parted (T : Txt K w mg) (G_numbers_of : Cal P w K mg base 1 "numbers_of" ["things"] (spNums K)) : Cal P w K mg base 2 "parted_by_leads" ["groups", "leads"] (spParted K) := by
  refine T.D_parted_by_leads.cal sc_parted_by_leads (fun vs H Q E h => ?_) (fun f cdv A outer s H vs Q E hr h => ?_)
  · obtain ⟨g, l, G, L, rfl, _⟩ := h
    rfl
  obtain ⟨g, l, G, L, rfl, hg, hd, hl, h100, ok, q⟩ := h
  refine ⟨_, (pss_one (ps_ret (pe_fn G_numbers_of hr (by omega) (pa_cons (pe_lc (own := [("group", 2), ("named", 3)]) (g := (gTup K 2 (gCons (gName 2) (gCons (gName 3) gNil)))) (tt := tYes) rfl sc_parted_by_leads.nd (RZ.pi_zipA (by rfl) T.z_zip (pa_cons (pv 0) (pa_cons (pv 1) pa_nil))) (blkOk_by (N := N_parted_by_leads) (sc := defScope s_parted_by_leads) (by decide +kernel)) (fun _ _ _ _ _ => (pg_tup rfl (pgs_cons (pg_name (i := 2) sc_parted_by_leads.nd rfl (.inl rfl)) (pgs_cons (pg_name (i := 3) sc_parted_by_leads.nd rfl (.inl rfl)) pgs_nil)))) (fun _ _ _ _ _ => pts_nil) (fun _ _ _ _ _ => (pe_tup (pa_cons (pv 2) (pa_cons (pe_lc (own := [("place", 4)]) (g := (gName 4)) (tt := tYes) rfl sc_parted_by_leads.nd (pi_listK (K := K) rfl (pv 3)) (blkOk_by (N := N_parted_by_leads) (sc := ⟨.function, [(".0", .local), ("group", .local), ("named", .local), ("groups", .cell)], false, false, []⟩) (by decide +kernel)) (fun _ _ _ _ _ => (pg_name (i := 4) sc_parted_by_leads.nd rfl (.inl rfl))) (fun _ _ _ _ _ => pts_nil) (fun _ _ _ _ _ => (pe_ix (r := rIxL K) ix_list (pv 0) (pv 4) (fun _ _ => rfl)))) pa_nil))))) pa_nil)))), ?_⟩
  cases hd with
  | @lst _ xs _ ha hxs =>
  have lx : xs.length = L.length := (dps_len hxs).trans (List.length_map ..)
  have lg : (intsV G).length = G.length := List.length_map ..
  refine ⟨_, rfl, _, rfl, g, l, intsV G, xs, rfl, .inl ⟨hg, ha, fun Dl hN => ?_⟩⟩
  refine lc_it (walk_zip (n := G.length) (by omega)) (fun i H3 => Ex H H3 ∧ ∃ ws, H3 Dl = some (.lst ws) ∧ DpAll K (wo Dl H3) ws ((pairsD G L).take i)) ⟨Ex.new hN, [], upd_same, .nil⟩ (fun i H3 _ p => ⟨ex_l p.1 hg, ex_l p.1 ha⟩) ?_ ?_
  · rintro i x H3 H4 hi ⟨e3, ws, h3, hw⟩ ⟨t, x1, x2, rfl, hT, rfl, hx1, hx2⟩
    obtain ⟨n, hn, rfl⟩ : ∃ n : Nat, G[i]? = some n ∧ x1 = .int (n : Int) := by
      have h1 : (G.map fun x : Nat => V.int (x : Int))[i]? = some x1 := hx1
      rw [List.getElem?_map] at h1
      cases hp : G[i]? with
      | none => rw [hp] at h1; cases h1
      | some p => rw [hp] at h1; exact ⟨p, rfl, (Option.some.inj h1).symm⟩
    obtain ⟨d1, hd1, dp1⟩ := dps_get hxs hx2
    rw [List.getElem?_map] at hd1
    cases hL : L[i]? with
    | none => rw [hL] at hd1; cases hd1
    | some li =>
    rw [hL] at hd1
    cases hd1
    cases dp1 with
    | @lst b ys _ hb hys =>
    have ey := dps_ints hys
    subst ey
    obtain ⟨o1, o2⟩ := ok li (get_mem hL)
    have f4 : Ex H (upd H3 t (.tup [.int (n : Int), .ref b])) := e3.trans (Ex.new hT)
    have h4 : (upd H3 t (.tup [.int (n : Int), .ref b])) Dl = some (.lst ws) := (Ex.new hT) Dl _ h3
    have tD : t ≠ Dl := fun z => by rw [z, h3] at hT; cases hT
    have hw4 : DpAll K (wo Dl (upd H3 t (.tup [.int (n : Int), .ref b]))) ws ((pairsD G L).take i) := dps_ex (wo_ex (Ex.new hT)) hw
    have h4t : (upd H3 t (.tup [.int (n : Int), .ref b])) t = some (.tup [.int (n : Int), .ref b]) := upd_same
    generalize upd H3 t (.tup [.int (n : Int), .ref b]) = H4 at f4 h4 hw4 h4t ⊢
    refine ⟨t, _, rfl, SqT.of h4t, rfl, _, _, rfl, _, _, rfl, rfl, rfl, yes ⟨_, rfl, _, rfl, b, rfl, ⟨_, ex_l f4 hb⟩, fun Dm hM => ?_⟩⟩
    refine lc_list (xs := intsV li) (fun j H5 => Ex H4 H5 ∧ H5 Dm = some (.lst (intsV ((li.take j).map fun x => G.getD x 0)))) ⟨Ex.new hM, upd_same⟩ (fun j H5 _ k => ex_l (f4.trans k.1) hb) ?_ ?_
    · rintro j y H5 hj ⟨e5, h5⟩
      obtain ⟨p, hp, rfl⟩ : ∃ p : Nat, li[j]? = some p ∧ y = .int (p : Int) := by
        have h1 : (li.map fun x : Nat => V.int (x : Int))[j]? = some y := hj
        rw [List.getElem?_map] at h1
        cases hp : li[j]? with
        | none => rw [hp] at h1; cases h1
        | some p => rw [hp] at h1; exact ⟨p, rfl, (Option.some.inj h1).symm⟩
      have pl := o2 p (get_mem hp)
      have gp : (intsV G)[p]? = some (.int ((G.getD p 0 : Nat) : Int)) := by
        unfold intsV
        rw [List.getElem?_map, List.getElem?_eq_getElem pl, List.getD_eq_getElem?_getD, List.getElem?_eq_getElem pl]
        rfl
      refine ⟨rfl, yes ⟨_, rfl, _, rfl, g, intsV G, (p : Int), _, rfl, rfl, ex_l (f4.trans e5) hg, atI_nat gp, _, h5, ?_, Ex.mut e5 hM, ?_⟩⟩
      · exact Nat.lt_of_le_of_lt (show (intsV ((li.take j).map fun x => G.getD x 0)).length ≤ 1000 by unfold intsV; rw [List.length_map, List.length_map, List.length_take]; omega) (by decide)
      · rw [upd_same, take_more hp, List.map_append]
        unfold intsV
        rw [List.map_append]
        rfl
    · rintro H5 ⟨e5, h5⟩
      rw [show (intsV li).length = li.length from List.length_map .., List.take_length] at h5
      refine ⟨sz 2, fun p2 hp2 => ?_⟩
      have f6 := Ex.new (o := .tup [.int (n : Int), .ref Dm]) hp2
      have E := e5.trans f6
      have lw := dps_len hw4
      rw [List.length_take, pairs_len hl] at lw
      have h6 := E _ _ h4
      have nm : Dm ≠ Dl := fun z => by rw [z, h4] at hM; cases hM
      have n2 : p2 ≠ Dl := fun z => by rw [z, e5 _ _ h4] at hp2; cases hp2
      refine ⟨ws, h6, small1000 (by omega), Ex.mut (f4.trans E) hN, ws ++ [.ref p2], upd_same, ?_⟩
      have same : wo Dl (upd (upd H5 p2 (.tup [.int (n : Int), .ref Dm])) Dl (.lst (ws ++ [.ref p2]))) = wo Dl (upd H5 p2 (.tup [.int (n : Int), .ref Dm])) := by
        funext c
        by_cases z : c = Dl
        · unfold wo
          rw [if_pos z, if_pos z]
        · rw [wo_ne z, wo_ne z, upd_ne z]
      rw [same, take_more (pairs_get hn hL)]
      refine dps_app (dps_ex (wo_ex E) hw4) (.cons (.tup (SqT.of (wo_upd n2)) (.cons (.int _) (.cons (dp_ints ?_) .nil))) .nil)
      rw [wo_ne nm]
      exact f6 _ _ h5
  · rintro H3 ⟨e3, ws, h3, hw⟩
    rw [← pairs_len hl, List.take_length] at hw
    exact ⟨.ref Dl, pairsD G L, rfl, .lst (SqL.of h3) (dps_ex wo_le hw), by rw [pairs_len hl]; omega, pairs_cmp, fun H4 p hn e4 h4 => q H4 p (fresh_back e3 hn) (e3.trans e4) h4⟩
end
end V


set_option Elab.async false
set_option linter.all false
set_option maxRecDepth 100000
set_option maxHeartbeats 4000000
namespace V
open PySem PySem.Spec PyProof.Rows L2 Evl TL NumText
section
variable {P : Program} {w : World} {K : PySem.W.Frag} {mg : Str → Option Value} {base : Heap}
theorem ok_saying (T : Txt K w mg) (G_leads_of : Cal P w K mg base 12 "leads_of" ["bodies"] (spLeads K)) (G_numbers_of : Cal P w K mg base 1 "numbers_of" ["things"] (spNums K)) (G_shapes_of : Cal P w K mg base 12 "shapes_of" ["bodies"] (spShapes K))
    (G_parted_by_leads : Cal P w K mg base 2 "parted_by_leads" ["groups", "leads"] (spParted K)) : Cal P w K mg base 13 "saying" ["bodies"] (spSay K) := by
  refine T.D_saying.cal sc_saying (fun vs H Q E h => ?_) (fun f cdv A outer s H vs Q E hr h => ?_)
  · obtain ⟨a, xs, bs, N, rfl, _⟩ := h
    rfl
  obtain ⟨a, xs, bs, N, rfl, hq, hb, hl, ok, hp, hpl, hN, hk, q⟩ := h
  refine ⟨_, (pss_cons (ps_set (i := 1) sc_saying.nd rfl (.inl rfl) (pe_fn G_leads_of hr (by omega) (pa_cons (pv 0) pa_nil)))
  (pss_cons (ps_set (i := 2) sc_saying.nd rfl (.inl rfl) (pe_fn G_numbers_of hr (by omega) (pa_cons (pe_fn G_shapes_of hr (by omega) (pa_cons (pv 0) pa_nil)) pa_nil)))
  (pss_cons (ps_set (i := 3) sc_saying.nd rfl (.inl rfl) (pe_fn G_parted_by_leads hr (by omega) (pa_cons (pv 2) (pa_cons (pv 1) pa_nil))))
  (pss_cons (ps_while PassesOwn.never (pt_cmpR (op_neD (Nat.lt_of_le_of_lt (Nat.add_le_add_left (by decide : 64 ≤ 80) _) (room_u hr))) (pv 3) (pv 2) (nomark _))
    (pss_cons (ps_set (i := 2) sc_saying.nd rfl (.inl rfl) (pv 3))
    (pss_one (ps_set (i := 3) sc_saying.nd rfl (.inl rfl) (pe_fn G_parted_by_leads hr (by omega) (pa_cons (pv 2) (pa_cons (pv 1) pa_nil)))))))
  (pss_one (ps_ret (pv 2))))))), ?_⟩
  have lL : (leadsF bs).length = bs.length := List.length_map ..
  have okL : ∀ n ∈ leadsF bs, n.length ≤ 1000 ∧ ∀ x ∈ n, x < bs.length := fun n hn => by
    obtain ⟨x, hx, rfl⟩ := List.mem_map.mp hn
    exact ⟨hpl x hx, hp x hx⟩
  refine ⟨_, rfl, a, xs, bs, rfl, hq, hb, hl, ok, fun H1 p1 n1 e1 d1 => ?_⟩
  have hq1 : SeqAt' K H1 a xs := Or.imp (ex_l e1) (ex_t e1) hq
  refine ⟨_, rfl, a, xs, bs, rfl, hq1, hb.ex e1, hl, fun x hx => ⟨(ok x hx).1, (ok x hx).2.1⟩, hp, fun H2 p2 ws n2 e2 h2 g2 => ?_⟩
  refine ⟨.ref p2, shapesD bs, rfl, .lst (SqL.of h2) g2.dps, by unfold shapesD; rw [List.length_map, List.length_map]; omega, shapes_cmp fun x hx => ⟨(ok x hx).1, (ok x hx).2.1⟩, fun H3 p3 n3 e3 h3 => ?_⟩
  have d3 := dp_ex (e2.trans e3) d1
  refine ⟨_, rfl, _, rfl, p3, p1, sayIt bs 0, leadsF bs, rfl, SqL.of h3, d3, by rw [say_len, lL], by rw [say_len]; exact hl, by rw [say_len]; exact okL, fun H4 p4 n4 e4 h4 => ?_⟩
  have e14 := e2.trans (e3.trans e4)
  refine ⟨fun m σ H' => ∃ (k : Nat) (pg pp : Addr), m = N - k ∧ k ≤ N ∧ σ = [some (.ref a), some (.ref p1), some (.ref pg), some (.ref pp)] ∧ Ex H H' ∧ H pg = none ∧ H pp = none ∧ H' pg = some (.lst (intsV (sayIt bs k))) ∧ H' pp = some (.lst (intsV (sayIt bs (k + 1)))) ∧ Dp K H' (.ref p1) (leadsD (leadsF bs)),
    ⟨N, 0, p3, p4, rfl, Nat.zero_le _, rfl, e1.trans e14, fresh_back (e1.trans e2) n3, fresh_back (e1.trans (e2.trans e3)) n4, e4 _ _ h3, h4, dp_ex e14 d1⟩, ?_⟩
  rintro m σ H5 ⟨k, pg, pp, hm, hkN, rfl, e5, ng, np, hg, hpp, d5⟩
  refine ⟨_, rfl, _, rfl, intsD (sayIt bs (k + 1)), intsD (sayIt bs k), dp_ints hpp, dp_ints hg, ints_shaped _, ints_shaped _, _, rfl, ?_⟩
  rw [ints_eq]
  by_cases c : sayIt bs (k + 1) = sayIt bs k
  · rw [decide_eq_true c]
    have : k = N := by
      rcases Nat.lt_or_ge k N with h | h
      · exact absurd c (hk k h)
      · omega
    subst this
    exact iteF ⟨_, rfl, q H5 pg ng e5 hg⟩
  · rw [decide_eq_false c]
    have kN : k < N := by
      rcases Nat.lt_or_ge k N with h | h
      · exact h
      · have : k = N := by omega
        subst this
        exact absurd hN c
    refine iteT ⟨fun σ' H' => ∃ (pp2 : Addr), σ' = [some (.ref a), some (.ref p1), some (.ref pp), some (.ref pp2)] ∧ Ex H H' ∧ H pp2 = none ∧ H' pp = some (.lst (intsV (sayIt bs (k + 1)))) ∧ H' pp2 = some (.lst (intsV (sayIt bs (k + 1 + 1)))) ∧ Dp K H' (.ref p1) (leadsD (leadsF bs)),
      fun σ' H' ⟨pp2, a1, a2, a3, a4, a5, a6⟩ => ⟨N - (k + 1), by omega, k + 1, pp, pp2, rfl, by omega, a1, a2, np, a3, a4, a5, a6⟩, ?_⟩
    refine ⟨_, rfl, _, rfl, _, rfl, pp, p1, sayIt bs (k + 1), leadsF bs, rfl, SqL.of hpp, d5, by rw [say_len, lL], by rw [say_len]; exact hl, by rw [say_len]; exact okL, fun H6 p6 n6 e6 h6 => ?_⟩
    exact ⟨p6, rfl, e5.trans e6, fresh_back e5 n6, e6 _ _ hpp, h6, dp_ex e6 d5⟩
end
end V


set_option Elab.async false
set_option linter.all false
set_option maxRecDepth 100000
set_option maxHeartbeats 4000000
namespace V
open PySem PySem.Spec PyProof.Rows L2 Evl TL NumText
section
variable {P : Program} {w : World} {K : PySem.W.Frag} {mg : Str → Option Value} {base : Heap}
theorem all_k09 (T : Txt K w mg) {fL : Addr} {fd : FuncData} (F : FunD K "law" "law" (defArgs s_law) (defBody s_law) (defScope s_law) [] [] fL fd) : FnOk P w K mg base CX0 16 fL fd ["script"] (spLaw K) := by
  have G_take : Cal P w K mg base 1 "_law_take" ["box", "size"] spTake := ok_take T.D__law_take T.z_divmod
  have G_spots : Cal P w K mg base 9 "_law_spots" ["term"] (spPlaces 8) := ok_lawSpots T 8
  have G_placed : Cal P w K mg base 9 "_law_placed" ["term", "places"] (spPlaced 8) := ok_placed T 8
  have G_parts : Cal P w K mg base 1 "parts_of" ["term"] spParts := ok_parts T.D_parts_of T.O T.g_CALLS
  have G_all : Cal P w K mg base 9 "terms_of" ["term"] (spAll 8) := ok_all T.D_terms_of G_parts 8
  have G_places : Cal P w K mg base 10 "places_of" ["term"] (spPlaces 8) := ok_places T.D_places_of G_all
  have G_leads := (ok_leads (P := P) (base := base) T G_places).mono (show 11 ≤ 12 by decide)
  have G_nums := ok_nums (P := P) (base := base) T
  have G_withAll := ok_withAll (P := P) (base := base) T (ok_with T G_parts 8)
  have G_saying := ok_saying (P := P) (base := base) T G_leads G_nums (ok_shapes T G_withAll) (ok_parted T G_nums)
  exact ok_law T F (ok_folded T.D__law_folded T.z_list T.z_enumerate) (ok_box T.D__law_box T.z_len T.z_abs T.z_int) (ok_right9 T (ok_known9 T) (ok_order T G_take) G_spots G_placed (G_saying.mono (by decide)))
end
end V


set_option Elab.async false
set_option linter.all false
set_option maxRecDepth 100000
set_option maxHeartbeats 4000000
namespace V
open PySem PySem.Spec PyProof.Rows L2
theorem facts {P : Program} {w : World} {K : PySem.W.Frag} {h h0 : Heap} {mg : Str → Option Value} {f : Addr} (X : K.In h) (G : h.Ns mainGlobals mg) (hfa : mg ("law" : Str) = some (.ref f)) (c : He.SaysX fa fn tabs [] ex w h0 K) :
    ∃ fd : FuncData, (∀ (s : Shared) (v : Value), BindsTo s fd ⟨[v], []⟩ [("script", v)]) ∧ ∀ base : Heap, K.In base → base.Ns mainGlobals mg → FnOk P w K mg base CX0 16 f fd ["script"] (spLaw K) := by
  have T : Txt K w mg := txt_of X G c
  obtain ⟨fd, F⟩ := c.t.d.def_ 18 (d := d_law) rfl
  have e := hfa.symm.trans (He.glo_ok X G (c.t.d.fact 18 (f := .glo "law") rfl))
  cases e
  have b := FunD.bindsA (ps := ["script"]) F fun _ _ _ _ _ _ us hl => match us, hl with | [_], _ => rfl
  exact ⟨fd, fun s v => b s [v] rfl, fun base _ _ => all_k09 T F⟩
end V
open PySem PySem.W PySem.Calls PyProof.Rows
theorem PySem.Challenge.cw_contentnames_k09_known_sayings_holds : PySem.Challenge.rw_contentnames_k09_known_sayings.Holds := by
  w_on; o_law
  refine HandSHeadRun.head_any (r := OpenLaw.row PySem.Challenge.rw_contentnames_k09_known_sayings) (q := view (OpenLaw.row PySem.Challenge.rw_contentnames_k09_known_sayings).prog [24]) (H := V.hk) (ob := V.ob) (M := 6000) (loose := V.loose)
    (d := HandSHeadRun.topDef (OpenLaw.row PySem.Challenge.rw_contentnames_k09_known_sayings).prog 24) (kwd := []) V.ob_eq
    (by kernel_rfl) (fun s => by kernel_rfl) V.run (by kernel_rfl) (by kernel_rfl) (by kernel_rfl) (by rfl) (by first | assumption | decide +kernel) (by decide +kernel) ⟨rfl, rfl, rfl, rfl, rfl, by decide +kernel⟩ ?hw ?hc
  case hw => w_witness2
  case hc =>
    refine L2.walk_ofE (l := PySem.Challenge.rw_contentnames_k09_known_sayings) (n := 63) (k := 16) (x := "script") (CX := L2.CX0) rfl (by decide) (by kernel_rfl) ⟨rfl, by decide, by decide⟩ ?F (fun _ _ _ _ z => z)
    intro w mg fa h Y G hmg0
    obtain ⟨K, KX, c⟩ := Y
    have hmg : mg ("law" : PySem.Str) = some (.ref fa) := by
      have e : (HandSHeadRun.topDef (OpenLaw.row PySem.Challenge.rw_contentnames_k09_known_sayings).prog 24).name = ("law" : PySem.Str) := by kernel_rfl
      rw [← e]
      exact hmg0
    obtain ⟨fd, hb, hF⟩ := V.facts (P := (PySem.Challenge.rw_contentnames_k09_known_sayings).prog) (w := w) KX G hmg c
    exact ⟨K, fd, V.spLaw K, KX, hb, fun H a ns hl _ hS => ⟨a, ns, rfl, hS, hl, fun _ => rfl⟩, hF⟩

