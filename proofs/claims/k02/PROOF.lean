import PyProof.Rows.All
import Wide.All
import OpenK.AllK
import Wide.FinOn
import HandS.ForMost
import HandS.Flow
import HandS.Style
import HandS.StrMore
import HandS.IsInst
import HandS.Zip
import HandS.Conv
import HandS.Walk
import HandS.More
import HandS.ClsMeth
import HandS.DictComp
import HandS.Exc
import HandS.TryMany
import HandS.ExcInit
import HandS.ExcField
import HandS.HotCalls
import HandS.Lambda
import KE.KExcInit
import HandS.Property
import HandS.FStr
import HandS.Finally
import HandS.SetBool
import HandS.Strs
import HandS.SetTxt0
import PyProof.Rows.SetFrom
import KE.GoesMore
import PyProof.FactsAll.subtypes_4
import PyProof.Rows.SortShellAny
import PyProof.Rows.SortStr
import PyProof.Rows.CountFlat
import HandS.TupAny
import HandS.WordsExc
import HandS.DictEq
import KE.KEqNest
import KE.KDflt
import HandS.EndTab
import HandS.DeepEq
import KE.KNestM
import PySem.Challenge.RW_threadmark_k02_invalid_webs
set_option Elab.async false
set_option linter.all false
set_option maxRecDepth 100000
/-! The part that every law of this program shares: heaps, the bag, a few rules. -/
namespace Tm
open PySem PySem.Spec PyProof.Rows L2

/-! ### heaps: all but the object at b is as it was -/
def Kp (b : Addr) (H H' : Hp) : Prop := ∀ p o, p ≠ b → H p = some o → H' p = some o
theorem Kp.refl (b : Addr) (H : Hp) : Kp b H H := fun _ _ _ h => h
theorem Kp.trans {b : Addr} {H H1 H2 : Hp} (x : Kp b H H1) (y : Kp b H1 H2) : Kp b H H2 := fun p o n h => y p o n (x p o n h)
theorem Kp.of_same {b : Addr} {H H' : Hp} (s : Same H H') : Kp b H H' := fun p o _ h => s p o h
theorem Kp.set {b : Addr} {H : Hp} {o : HO} : Kp b H (upd H b o) := fun p u n h => by rw [upd_ne n]; exact h
theorem Kp.new {b q : Addr} {H : Hp} {o : HO} (h : H q = none) : Kp b H (upd H q o) := fun p u _ e => by
  rw [upd_ne (ne_of_none e h)]; exact e
/-- a store to an object that was not there at the start -/
theorem Kp.put {b q : Addr} {H H' : Hp} {o : HO} (k : Kp b H H') (h : H q = none) : Kp b H (upd H' q o) := fun p u n e => by
  rw [upd_ne (ne_of_none e h)]; exact k p u n e
theorem same_upd {H : Hp} {p : Addr} {o : HO} (h : H p = none) : Same H (upd H p o) := fun b x e => by
  rw [upd_ne (ne_of_none e h)]; exact e
theorem same_put {q : Addr} {H H' : Hp} {o : HO} (k : Same H H') (h : H q = none) : Same H (upd H' q o) := fun p u e => by
  rw [upd_ne (ne_of_none e h)]; exact k p u e
theorem Kp.free {b : Addr} {H H' : Hp} (e : Kp b H H') {l : Addr} (hb : ∃ o, H' b = some o) (h : H' l = none) : H l = none := by
  obtain ⟨o, hb⟩ := hb
  have n : l ≠ b := fun z => by rw [z, hb] at h; cases h
  cases q : H l with
  | none => rfl
  | some o => rw [e l o n q] at h; cases h
theorem Kp.seq {K : PySem.W.Frag} {b : Addr} {H H' : Hp} {a : Addr} {xs : List V} (e : Kp b H H') (n : a ≠ b) (h : SqL K H a xs) : SqL K H' a xs :=
  h.imp (fun seen => seen.imp (e a _ n) (fun ⟨ob, at_a⟩ => ⟨ob, e a _ n at_a⟩)) id

/-! ### the bag of the draws -/
def Bag (H : Hp) (b l : Addr) : Prop := ∃ (xs : List Int) (i n s : Int), H b = some (.lst [.ref l, .int i, .int n, .int s]) ∧ H l = some (.lst (xs.map V.int)) ∧ 0 ≤ i ∧ 0 ≤ n ∧ 0 ≤ s ∧ s < 2147483549
theorem bag_ne {H : Hp} {b l : Addr} {xs : List Int} {u v w : V} {a : Addr} (h : H b = some (.lst [.ref a, u, v, w])) (hl : H l = some (.lst (xs.map V.int))) : l ≠ b := ne_of hl h (by
  intro e
  have e2 := HO.lst.inj e
  cases xs with
  | nil => cases e2
  | cons x r => cases e2)
theorem Bag.hb {H : Hp} {b l : Addr} (B : Bag H b l) : ∃ o, H b = some o := by
  obtain ⟨xs, i, n, s, h, _⟩ := B
  exact ⟨_, h⟩
theorem Bag.hl {H : Hp} {b l : Addr} (B : Bag H b l) : ∃ o, H l = some o := by
  obtain ⟨xs, i, n, s, _, h, _⟩ := B
  exact ⟨_, h⟩
theorem Bag.nb {H : Hp} {b l q : Addr} (B : Bag H b l) (h : H q = none) : q ≠ b := fun e => by
  obtain ⟨o, hb⟩ := B.hb
  rw [e, hb] at h; cases h
theorem Bag.nl {H : Hp} {b l q : Addr} (B : Bag H b l) (h : H q = none) : q ≠ l := fun e => by
  obtain ⟨o, hb⟩ := B.hl
  rw [e, hb] at h; cases h
/-- a store elsewhere -/
theorem Bag.put {H : Hp} {b l q : Addr} {o : HO} (B : Bag H b l) (n1 : q ≠ b) (n2 : q ≠ l) : Bag (upd H q o) b l := by
  obtain ⟨xs, i, n, s, hb, hl, r⟩ := B
  exact ⟨xs, i, n, s, by rw [upd_ne n1.symm]; exact hb, by rw [upd_ne n2.symm]; exact hl, r⟩
theorem Bag.new {H : Hp} {b l q : Addr} {o : HO} (B : Bag H b l) (h : H q = none) : Bag (upd H q o) b l := B.put (B.nb h) (B.nl h)
theorem Bag.same {H H' : Hp} {b l : Addr} (B : Bag H b l) (k : Same H H') : Bag H' b l := by
  obtain ⟨xs, i, n, s, hb, hl, r⟩ := B
  exact ⟨xs, i, n, s, k _ _ hb, k _ _ hl, r⟩

/-! ### list(text) -/
def sig (c : Nat) : V := .str ⟨#[c]⟩
/-- two lists, place by place -/
theorem placewise {α β : Type} {R : α → β → Prop} : ∀ (as : List α) (bs : List β), as.length = bs.length → (∀ (j : Nat) (a : α) (b : β), as[j]? = some a → bs[j]? = some b → R a b) → Paired R as bs
  | [], [], _, _ => .nil
  | a :: as, b :: bs, hl, h => .cons (h 0 a b rfl rfl) (placewise as bs (Nat.succ.inj hl) fun j x y hx hy => h (j + 1) x y hx hy)
/-- the cells that the machine drew out of a text are its signs -/
theorem signs_drawn (z : Str) (cells : Array Value) (drawn : ItemsOf (SignAt z) cells z.cps.size) : Vals (z.cps.toList.map sig) cells.toList := by
  apply placewise
  · simp [drawn.1]
  · intro j v u hv hu
    rw [Array.getElem?_toList] at hu
    rcases drawn.2 j u hu with ⟨code, tok, there, rfl⟩
    have same : v = sig code := by
      rw [List.getElem?_map, Array.getElem?_toList, there] at hv
      exact (Option.some.inj hv).symm
    rw [same]
    exact ⟨tok, rfl⟩
theorem call_listS {X : Cx} (calm : X.calm = true) : CallR X (.type "list") (fun given H Q => ∃ z : Str, given = [.str z] ∧ z.length ≤ sizeLine ∧ ∀ l, H l = none → Q (.ref l) (upd H l (.lst (z.cps.toList.map sig)))) :=
  fun pins s σ H given held Q inv rel ask => by
    rcases ask with ⟨z, rfl, short, hand⟩
    match held, rel with
    | [_], .cons ⟨tok, rfl⟩ .nil =>
      apply PySem.call_list_str (inv.ok.hd calm) z tok (hn := short)
      intro heap toks cells ver kept made drawn
      have long : (z.cps.toList.map sig).length ≤ sizeLine := by
        rw [List.length_map, Array.length_toList]
        exact short
      have stands : Inv X pins σ (upd H s.heap.objs.size (.lst (z.cps.toList.map sig))) { s with heap := heap, toks := toks } :=
        inv.laid kept (Nat.le_refl _) ⟨long, cells.toList, ver, signs_drawn z cells drawn, made⟩
      exact ⟨V.ref s.heap.objs.size, _, stands, rfl, hand _ (inv.hok.fresh (Nat.le_refl _))⟩

/-! ### small things -/
theorem cut {t1 t2 : TS} {D : Ends} {σ : L2.St} {H : Hp} (Pv : L2.St → Hp → Prop) (h2 : ∀ σ' H', Pv σ' H' → t2 D σ' H') (h1 : ∀ N : L2.St → Hp → Prop, (∀ σ' H', Pv σ' H' → N σ' H') → t1 { D with nx := N } σ H) : tSeq t1 t2 D σ H := h1 _ h2
theorem cut_ints (ns : List Int) (lo hi : Option Int) : ∃ ms : List Int, cutV (ns.map V.int) lo hi = ms.map V.int := by
  unfold cutV
  rw [← List.map_drop, ← List.map_take]
  exact ⟨_, rfl⟩
theorem cut_int {ns : List Int} {lo hi : Option Int} {i : Nat} {y : V} (h : (cutV (ns.map V.int) lo hi)[i]? = some y) : ∃ u, y = V.int u := by
  obtain ⟨ms, e⟩ := cut_ints ns lo hi
  rw [e, List.getElem?_map] at h
  cases e2 : ms[i]? with
  | none => rw [e2] at h; cases h
  | some u => rw [e2] at h; exact ⟨u, (Option.some.inj h).symm⟩

/-! ### what the helpers promise -/
def spBag (K : PySem.W.Frag) : Sp := fun vs H Q _ => ∃ (a : Addr) (ns : List Int), vs = [.ref a] ∧ SqL K H a (ns.map V.int) ∧ ∀ H' b l, Same H H' → H b = none → H l = none → Bag H' b l → Q (.ref b) H'
def spPull : Sp := fun vs H Q _ => ∃ (b l : Addr) (m : Int), vs = [.ref b, .int m] ∧ Bag H b l ∧ 0 < m ∧ m < 1073741824 ∧ ∀ H' (d : Int), Kp b H H' → Bag H' b l → 0 ≤ d → d < m → Q (.int d) H'

/-! ### equal data -/
inductive Eqv (H : Hp) : Nat → V → V → Prop where
  | non (n : Nat) : Eqv H n .non .non
  | bl (n : Nat) (b : Bool) : Eqv H n (.bl b) (.bl b)
  | int (n : Nat) (i : Int) : Eqv H n (.int i) (.int i)
  | str (n : Nat) (z : Str) : Eqv H n (.str z) (.str z)
  | lst {n : Nat} {p q : Addr} {xs ys : List V} (hp : H p = some (.lst xs)) (hq : H q = some (.lst ys)) (hl : xs.length = ys.length) (hz : xs.length ≤ 10000) (h : ∀ (i : Nat) (x y : V), xs[i]? = some x → ys[i]? = some y → Eqv H n x y) : Eqv H (n + 1) (.ref p) (.ref q)
  | tup {n : Nat} {p q : Addr} {xs ys : List V} (hp : H p = some (.tup xs)) (hq : H q = some (.tup ys)) (hl : xs.length = ys.length) (hz : xs.length ≤ 10000) (h : ∀ (i : Nat) (x y : V), xs[i]? = some x → ys[i]? = some y → Eqv H n x y) : Eqv H (n + 1) (.ref p) (.ref q)
theorem Eqv.same {H H' : Hp} (s : Same H H') {n : Nat} {x y : V} (e : Eqv H n x y) : Eqv H' n x y := by
  induction e with
  | non n => exact .non n
  | bl n b => exact .bl n b
  | int n i => exact .int n i
  | str n z => exact .str n z
  | lst hp hq hl hz h ih => exact .lst (s _ _ hp) (s _ _ hq) hl hz ih
  | tup hp hq hl hz h ih => exact .tup (s _ _ hp) (s _ _ hq) hl hz ih
def spSame (n : Nat) : Sp := fun vs H Q _ => ∃ (x y : V), vs = [x, y] ∧ Eqv H n x y ∧ ∀ H', Same H H' → Q (.bl true) H'
/-- the type of a flat value -/
theorem kit_list {K : PySem.W.Frag} {a : String} {r : Bool} (h : kitB a "list" = some r) (h2 : r = false → kitB a "tuple" = some false) : PySem.W.kitAny K (.type a) [.type "list", .type "tuple"] = some r := by
  refine kitAny_cons (kit_ty h) (fun e => ?_) (fun e => e)
  subst e
  exact kitAny_cons (kit_ty (h2 rfl)) (fun _ => kitAny_nil) (fun e => by cases e)
theorem kit_tup {K : PySem.W.Frag} : PySem.W.kitAny K (.type "tuple") [.type "list", .type "tuple"] = some true :=
  kitAny_cons (b := false) (kit_ty (by decide +kernel)) (fun _ => kitAny_cons (b := true) (kit_ty (by decide +kernel)) (fun e => by cases e) (fun _ => rfl)) (fun e => by cases e)
/-- zip of two tuples, walked to the end of the shorter -/
theorem zip_tuples {K : PySem.W.Frag} {a b : Addr} {xs ys : List V} (hl : xs.length = ys.length) : Walk (RZ.ItzT K a b) xs.length (fun H => SqT K H a xs ∧ SqT K H b ys) (YPair (fun i => xs[i]?) (fun i => ys[i]?)) where
  goes := fun i H lt both => ⟨xs, ys, xs[i], ys[i]'(by omega), both.1, both.2, List.getElem?_eq_getElem lt, List.getElem?_eq_getElem (by omega)⟩
  stops := fun H both => ⟨xs, ys, both.1, both.2, .inl (Nat.le_refl _)⟩
  yields := fun i H v H' _ both ⟨T, x, y, e, new, after, at_x, at_y⟩ => ⟨T, x, y, e, new, after, at_x xs both.1, at_y ys both.2⟩
def spOf (K : PySem.W.Frag) : Sp := fun vs H Q _ => ∃ (b l : Addr) (t : V) (xs : List V), vs = [.ref b, t] ∧ Bag H b l ∧
  ((∃ a, t = .ref a ∧ a ≠ b ∧ SqL K H a xs) ∨ (∃ z : Str, t = .str z ∧ z.length ≤ sizeLine ∧ xs = z.cps.toList.map sig)) ∧ 0 < xs.length ∧ xs.length < 1073741824 ∧ ∀ H' x, Kp b H H' → Bag H' b l → x ∈ xs → Q x H'
def spMixed (K : PySem.W.Frag) : Sp := fun vs H Q _ => ∃ (b l a : Addr) (xs : List V), vs = [.ref b, .ref a] ∧ Bag H b l ∧ a ≠ b ∧ SqL K H a xs ∧ xs.length ≤ 1000 ∧
  ∀ H' p ys, Kp b H H' → Bag H' b l → H p = none → H' p = some (.lst ys) → ys.Perm xs → Q (.ref p) H'
theorem erasePm {α : Type} : ∀ (l : List α) (i : Nat) (h : i < l.length), (l[i] :: l.eraseIdx i).Perm l
  | [], i, h => absurd h (Nat.not_lt_zero _)
  | x :: r, 0, h => .refl _
  | x :: r, i + 1, h => by
    have hr : i < r.length := Nat.lt_of_succ_lt_succ h
    show (r[i] :: x :: r.eraseIdx i).Perm (x :: r)
    exact (List.Perm.swap x _ _).trans ((erasePm r i hr).cons x)
theorem ifF {c : Bool} {A B : Prop} (h : c = false) (hb : B) : if c = true then A else B := by rw [h]; exact iteF hb
theorem ifT {c : Bool} {A B : Prop} (h : c = true) (ha : A) : if c = true then A else B := by rw [h]; exact iteT ha




/-! ### texts as lists of signs -/
def txt (cs : List Nat) : Str := ⟨cs.toArray⟩
theorem txt_len (cs : List Nat) : (txt cs).length = cs.length := by show cs.toArray.size = _; simp
theorem txt_cps (cs : List Nat) : (txt cs).cps.toList = cs := by show cs.toArray.toList = _; simp
theorem txt_of (z : Str) : txt z.cps.toList = z := by show (⟨z.cps.toList.toArray⟩ : Str) = z; simp
theorem txt_app (a b : List Nat) : txt a ++ txt b = txt (a ++ b) := by
  show (⟨a.toArray ++ b.toArray⟩ : Str) = ⟨(a ++ b).toArray⟩
  simp
theorem txt_inj {a b : List Nat} (h : txt a = txt b) : a = b := by rw [← txt_cps a, ← txt_cps b, h]
theorem txt_minus : Str.ofString "-" = txt [45] := by decide +kernel
theorem txt_empty : Str.ofString "" = txt [] := by decide +kernel
theorem sig_txt (c : Nat) : sig c = .str (txt [c]) := rfl
def lettersL : List Nat → List Nat
  | [] => []
  | c :: r => if c = 45 then r else c :: r
def signL : List Nat → Nat
  | [] => 0
  | c :: r => if c = 45 then 1 else 0
def signedL (t : Int) (cs : List Nat) : List Nat := if t % 2 = 1 then 45 :: cs else cs
theorem letters_len (ts : List Nat) : (lettersL ts).length + signL ts = ts.length := by
  cases ts with
  | nil => rfl
  | cons c r =>
    show (if c = 45 then r else c :: r).length + (if c = 45 then 1 else 0) = r.length + 1
    by_cases h : c = 45
    · rw [if_pos h, if_pos h]
    · rw [if_neg h, if_neg h, List.length_cons]
theorem remove_minus (ts : List Nat) : Txt.removeprefix (txt ts) (Str.ofString "-") = txt (lettersL ts) := by
  rw [txt_minus]
  unfold Txt.removeprefix
  cases ts with
  | nil => rfl
  | cons c r =>
    have e : Builtin.Str.subAt (txt (c :: r)) (txt [45]) 0 = decide (c = 45) := by
      unfold Builtin.Str.subAt
      show ((c :: r).toArray.extract 0 (0 + 1) == #[45]) = _
      have e2 : (c :: r).toArray.extract 0 (0 + 1) = #[c] := by simp
      rw [e2]
      by_cases h : c = 45
      · subst h; rfl
      · rw [decide_eq_false h]
        simp [h]
    rw [e]
    show _ = txt (if c = 45 then r else c :: r)
    by_cases h : c = 45
    · rw [decide_eq_true h, if_pos rfl, if_pos h]
      unfold Txt.affix
      have e3 : ((txt (c :: r)).length - (txt [45]).length == (txt (c :: r)).length) = false := by
        rw [txt_len, txt_len]
        simp
      show (if ((txt (c :: r)).length - (txt [45]).length == (txt (c :: r)).length) = true then _ else _) = _
      rw [e3, if_neg Bool.false_ne_true]
      show (⟨(c :: r).toArray.extract 1 (c :: r).toArray.size⟩ : Str) = ⟨r.toArray⟩
      simp
    · rw [decide_eq_false h, if_neg Bool.false_ne_true, if_neg h]
      rfl
theorem join_txt : ∀ (xs : List (List Nat)), Txt.join (Str.ofString "") (xs.map txt) = txt xs.flatten := by
  intro xs
  show Builtin.Str.glued _ _ = _
  rw [StrLaws.glued_eq_join, txt_empty]
  induction xs with
  | nil => rfl
  | cons x r ih =>
    cases r with
    | nil => show txt x = txt (x ++ []); rw [List.append_nil]
    | cons y r =>
      show txt x ++ txt [] ++ Str.join (txt []) ((y :: r).map txt) = _
      rw [ih, txt_app, txt_app, List.append_nil]
      rfl
theorem flat_ones (cs : List Nat) : (cs.map fun c => [c]).flatten = cs := by
  induction cs with
  | nil => rfl
  | cons c r ih => show c :: (r.map fun c => [c]).flatten = _; rw [ih]
theorem join_sigs (cs : List Nat) : Txt.join (Str.ofString "") (cs.map fun c => txt [c]) = txt cs := by
  have e : (cs.map fun c => txt [c]) = (cs.map fun c => [c]).map txt := by rw [List.map_map]; rfl
  rw [e, join_txt, flat_ones]
theorem len_ones (cs : List Nat) : ((cs.map fun c => txt [c]).map (·.length)).sum = cs.length := by
  induction cs with
  | nil => rfl
  | cons c r ih =>
    show (txt [c]).length + ((r.map fun c => txt [c]).map (·.length)).sum = _
    rw [ih, txt_len, List.length_cons]
    simp [Nat.add_comm]
/-- a word: its sign, its letters (none is the sign) -/
def wd (s : Bool) (cs : List Nat) : List Nat := if s then 45 :: cs else cs
def Lt (cs : List Nat) : Prop := ∀ c ∈ cs, c ≠ 45
theorem letters_wd {s : Bool} {cs : List Nat} (h : Lt cs) : lettersL (wd s cs) = cs := by
  cases s with
  | true => rfl
  | false =>
    cases cs with
    | nil => rfl
    | cons c r =>
      show (if c = 45 then r else c :: r) = c :: r
      rw [if_neg (h c List.mem_cons_self)]
theorem sign_wd {s : Bool} {cs : List Nat} (h : Lt cs) : signL (wd s cs) = s.toNat := by
  cases s with
  | true => rfl
  | false =>
    cases cs with
    | nil => rfl
    | cons c r =>
      show (if c = 45 then 1 else 0) = 0
      rw [if_neg (h c List.mem_cons_self)]
theorem signed_wd (t : Int) (cs : List Nat) : signedL t cs = wd (decide (t % 2 = 1)) cs := by
  unfold signedL wd
  by_cases h : t % 2 = 1
  · rw [if_pos h, decide_eq_true h]; rfl
  · rw [if_neg h, decide_eq_false h]; rfl
theorem wd_len (s : Bool) (cs : List Nat) : (wd s cs).length = cs.length + s.toNat := by cases s <;> rfl
def spLetters : Sp := fun vs H Q _ => ∃ ts : List Nat, vs = [.str (txt ts)] ∧ ts.length ≤ sizeLine ∧ Q (.str (txt (lettersL ts))) H
def spSignOf : Sp := fun vs H Q _ => ∃ ts : List Nat, vs = [.str (txt ts)] ∧ ts.length ≤ sizeLine ∧ Q (.int (signL ts)) H
def spSigned : Sp := fun vs H Q _ => ∃ (t : Int) (cs : List Nat), vs = [.int t, .str (txt cs)] ∧ cs.length < sizeLine ∧ Q (.str (txt (signedL t cs))) H

/-! ### cancelling -/
def stp (rs : List Nat) (c : Nat) : List Nat := match rs with
  | [] => [c]
  | d :: r => if d = c then r else c :: d :: r
def noAdj : List Nat → Prop
  | a :: b :: r => a ≠ b ∧ noAdj (b :: r)
  | _ => True
theorem noAdj.tail {a : Nat} {r : List Nat} (h : noAdj (a :: r)) : noAdj r := by
  cases r with
  | nil => trivial
  | cons b r => exact h.2
theorem stp_noAdj {rs : List Nat} (c : Nat) (h : noAdj rs) : noAdj (stp rs c) := by
  cases rs with
  | nil => trivial
  | cons d r =>
    unfold stp
    dsimp only
    by_cases e : d = c
    · rw [if_pos e]; exact h.tail
    · rw [if_neg e]; exact ⟨fun z => e z.symm, h⟩
theorem stp_stp {rs : List Nat} (c : Nat) (h : noAdj rs) : stp (stp rs c) c = rs := by
  cases rs with
  | nil => show (if c = c then [] else _) = _; rw [if_pos rfl]
  | cons d r =>
    by_cases e : d = c
    · subst e
      have e1 : stp (d :: r) d = r := if_pos rfl
      rw [e1]
      cases r with
      | nil => rfl
      | cons b r =>
        show (if b = d then r else d :: b :: r) = _
        rw [if_neg (fun z => h.1 z.symm)]
    · have e1 : stp (d :: r) c = c :: d :: r := if_neg e
      rw [e1]
      show (if c = c then d :: r else _) = _
      rw [if_pos rfl]
def redR (cs : List Nat) : List Nat := cs.foldl stp []
def redL (cs : List Nat) : List Nat := (redR cs).reverse
theorem fold_noAdj : ∀ (cs rs : List Nat), noAdj rs → noAdj (cs.foldl stp rs)
  | [], _, h => h
  | c :: r, rs, h => fold_noAdj r (stp rs c) (stp_noAdj c h)
theorem redR_snoc (cs : List Nat) (c : Nat) : redR (cs ++ [c]) = stp (redR cs) c := by
  unfold redR
  rw [List.foldl_append]
  rfl
theorem red_cancel (a b : List Nat) (c : Nat) : redL (a ++ c :: c :: b) = redL (a ++ b) := by
  unfold redL redR
  rw [List.foldl_append, List.foldl_append]
  show (b.foldl stp (stp (stp (a.foldl stp []) c) c)).reverse = _
  rw [stp_stp c (fold_noAdj a [] trivial)]
theorem stp_mem {rs : List Nat} {c x : Nat} (h : x ∈ stp rs c) : x = c ∨ x ∈ rs := by
  cases rs with
  | nil => exact .inl (List.mem_singleton.mp h)
  | cons d r =>
    by_cases e : d = c
    · have e1 : stp (d :: r) c = r := if_pos e
      rw [e1] at h
      exact .inr (List.mem_cons_of_mem _ h)
    · have e1 : stp (d :: r) c = c :: d :: r := if_neg e
      rw [e1] at h
      exact (List.mem_cons.mp h)
theorem stp_len (rs : List Nat) (c : Nat) : (stp rs c).length ≤ rs.length + 1 := by
  cases rs with
  | nil => exact Nat.le_refl _
  | cons d r =>
    by_cases e : d = c
    · have e1 : stp (d :: r) c = r := if_pos e
      rw [e1, List.length_cons]; omega
    · have e1 : stp (d :: r) c = c :: d :: r := if_neg e
      rw [e1]; exact Nat.le_refl _
def still (cs : List Nat) : Prop := ∀ (i : Nat) (a b : Nat), cs[i]? = some a → cs[i + 1]? = some b → a ≠ b
theorem redR_take {cs : List Nat} (h : still cs) : ∀ k, k ≤ cs.length → redR (cs.take k) = (cs.take k).reverse
  | 0, _ => rfl
  | k + 1, hk => by
    have hk1 : k < cs.length := hk
    rw [List.take_succ_eq_append_getElem hk1, redR_snoc, redR_take h k (by omega), List.reverse_append]
    cases k with
    | zero => rfl
    | succ j =>
      have hj : j < cs.length := by omega
      rw [List.take_succ_eq_append_getElem hj, List.reverse_append]
      show (if cs[j] = cs[j + 1] then _ else cs[j + 1] :: cs[j] :: (cs.take j).reverse) = cs[j + 1] :: cs[j] :: (cs.take j).reverse
      rw [if_neg (h j _ _ (List.getElem?_eq_getElem hj) (List.getElem?_eq_getElem hk1))]
theorem red_still {cs : List Nat} (h : still cs) : redL cs = cs := by
  have e := redR_take h cs.length (Nat.le_refl _)
  rw [List.take_length] at e
  unfold redL
  rw [e, List.reverse_reverse]
theorem redR_len (cs : List Nat) : (redR cs).length ≤ cs.length := by
  have : ∀ (cs rs : List Nat), (cs.foldl stp rs).length ≤ rs.length + cs.length := by
    intro cs
    induction cs with
    | nil => intro rs; exact Nat.le_refl _
    | cons c r ih =>
      intro rs
      have h1 := ih (stp rs c)
      have h2 := stp_len rs c
      show (r.foldl stp (stp rs c)).length ≤ rs.length + (r.length + 1)
      omega
  have h := this cs []
  rw [List.length_nil, Nat.zero_add] at h
  exact h
def spReduced : Sp := fun vs H Q _ => ∃ ts : List Nat, vs = [.str (txt ts)] ∧ ts.length ≤ 1000 ∧ ∀ H', Same H H' → Q (.str (txt (signedL (signL ts) (redL (lettersL ts))))) H'

/-! ### slices of texts; lists of ints as data -/
theorem cutS_take (cs : List Nat) (k : Nat) : cutS (txt cs) none (some (k : Int)) = txt (cs.take k) := by
  unfold cutS
  rw [txt_cps, HT.sIx_none, HT.sIx_nat, txt_len]
  show txt _ = txt _
  congr 1
  rw [List.drop_zero, Nat.sub_zero]
  by_cases h : k ≤ cs.length
  · rw [Nat.min_eq_left h]
  · rw [Nat.min_eq_right (by omega), List.take_length, List.take_of_length_le (by omega)]
theorem cutS_drop (cs : List Nat) (k : Nat) : cutS (txt cs) (some (k : Int)) none = txt (cs.drop k) := by
  unfold cutS
  rw [txt_cps, HT.sIx_none, HT.sIx_nat, txt_len]
  show txt _ = txt _
  congr 1
  by_cases h : k ≤ cs.length
  · rw [Nat.min_eq_left h]
    exact List.take_of_length_le (by rw [List.length_drop]; exact Nat.le_refl _)
  · rw [Nat.min_eq_right (by omega), List.drop_of_length_le (Nat.le_refl _), List.drop_of_length_le (l := cs) (by omega)]
    exact List.take_nil
theorem cutV_take (xs : List V) (k : Nat) : cutV xs none (some (k : Int)) = xs.take k := by
  unfold cutV
  rw [HT.sIx_none, HT.sIx_nat, List.drop_zero, Nat.sub_zero]
  by_cases h : k ≤ xs.length
  · rw [Nat.min_eq_left h]
  · rw [Nat.min_eq_right (by omega), List.take_length, List.take_of_length_le (by omega)]
theorem dp_ints {K : PySem.W.Frag} {H : Hp} : ∀ ns : List Int, DpAll K H (ns.map V.int) (ns.map PyData.int)
  | [] => .nil
  | n :: r => .cons (.int n) (dp_ints r)
theorem shaped_ints' (ns : List Int) : SeqAt.shaped (.list (ns.map PyData.int)) = true := PySem.W.ke_shaped_ints ns
theorem signed_wd0 {s : Bool} (cs : List Nat) : signedL ((s.toNat : Nat) : Int) cs = wd s cs := by cases s <;> rfl
def spLSigned : Sp := spSigned
def spLets : Sp := fun vs H Q _ => vs = [] ∧ Q (.str (Str.ofString "abcdefghijklmnopqrstuvwx")) H
def alpha : List Nat := [97, 98, 99, 100, 101, 102, 103, 104, 105, 106, 107, 108, 109, 110, 111, 112, 113, 114, 115, 116, 117, 118, 119, 120]
theorem txt_alpha : Str.ofString "abcdefghijklmnopqrstuvwx" = txt alpha := by decide +kernel
theorem alpha_lt {c : Nat} (h : c ∈ alpha) : c ≠ 45 := by
  intro e
  subst e
  exact absurd h (by decide)
theorem perm_sigs {ys : List V} {cs : List Nat} (h : ys.Perm (cs.map sig)) : ∃ ds : List Nat, ys = ds.map sig ∧ ds.Perm cs := by
  refine ⟨ys.map (fun v => match v with | .str z => z.cps.toList.headD 0 | _ => 0), ?_, ?_⟩
  · rw [List.map_map]
    have : ∀ y ∈ ys, (sig ∘ fun v => match v with | .str z => z.cps.toList.headD 0 | _ => 0) y = y := by
      intro y hy
      obtain ⟨c, _, rfl⟩ := List.mem_map.mp (h.mem_iff.mp hy)
      rfl
    rw [List.map_congr_left this, List.map_id']
  · have h2 := h.map (fun v => match v with | .str z => z.cps.toList.headD 0 | _ => 0)
    rw [List.map_map] at h2
    have e : ((fun v => match v with | V.str z => z.cps.toList.headD 0 | _ => 0) ∘ sig) = id := by funext c; rfl
    rw [e, List.map_id] at h2
    exact h2
def spLaw (K : PySem.W.Frag) : Sp := fun vs H Q _ => ∃ (a : Addr) (ns : List Int), vs = [.ref a] ∧ SqL K H a (ns.map V.int) ∧ ns.length ≤ 63 ∧ ∀ H', Q (.bl true) H'
end Tm

/-! The drawn webs of the laws: their data. -/
namespace Tm
open PySem PySem.Spec PyProof.Rows L2

/-! ### what a drawn web is: marks by node, ends by letter -/
def marksK (ms : List (Int × Int)) : List (Key × V) := ms.map fun m => (Sum.inl m.1, V.int m.2)
/-- letter, address of its pair, lesser end, greater end -/
structure Edg where
  letter : Nat
  pair : Addr
  lo : Int
  hi : Int
def endsK (es : List Edg) : List (Key × V) := es.map fun e => (Sum.inr (txt [e.letter]), V.ref e.pair)
structure RawOk (H : Hp) (ms : List (Int × Int)) (es : List Edg) : Prop where
  rise : (ms.map (·.1)).Pairwise (· < ·)
  node : ∀ m ∈ ms, 0 ≤ m.1 ∧ m.1 < 12
  mark : ∀ m ∈ ms, m.2 = 0 ∨ m.2 = 1
  risE : (es.map (·.letter)).Pairwise (· < ·)
  name : ∀ e ∈ es, e.letter ∈ alpha
  pair : ∀ e ∈ es, H e.pair = some (.tup [.int e.lo, .int e.hi])
  less : ∀ e ∈ es, e.lo < e.hi
  ends : ∀ e ∈ es, e.lo ∈ ms.map (·.1) ∧ e.hi ∈ ms.map (·.1)
/-- a drawn web: a tuple of two dicts -/
def RawAt (H : Hp) (t : Addr) (ms : List (Int × Int)) (es : List Edg) : Prop :=
  ∃ dm de : Addr, H t = some (.tup [.ref dm, .ref de]) ∧ H dm = some (.dK (marksK ms)) ∧ H de = some (.dK (endsK es)) ∧ RawOk H ms es
def spRaw : Sp := fun vs H Q _ => ∃ (b l : Addr) (wide many : Int), vs = [.ref b, .int wide, .int many] ∧ Bag H b l ∧ 0 ≤ wide ∧ wide ≤ 12 ∧ 0 ≤ many ∧ many ≤ 24 ∧
  ∀ H' t ms es, Kp b H H' → Bag H' b l → RawAt H' t ms es → Q (.ref t) H'

/-! ### rising lists -/
theorem rise_lt {ns : List Int} (h : ns.Pairwise (· ≤ ·)) (nd : ns.Nodup) : ns.Pairwise (· < ·) := by
  induction ns with
  | nil => exact .nil
  | cons n r ih =>
    rcases List.pairwise_cons.mp h with ⟨h1, h2⟩
    rcases List.nodup_cons.mp nd with ⟨n1, n2⟩
    refine List.pairwise_cons.mpr ⟨fun m hm => ?_, ih h2 n2⟩
    have a := h1 m hm
    have c : n ≠ m := fun e => n1 (e ▸ hm)
    omega
theorem rise_get {ns : List Int} (h : ns.Pairwise (· < ·)) {i j : Nat} (hi : i < ns.length) (hj : j < ns.length) (hij : i < j) : ns[i] < ns[j] := List.pairwise_iff_getElem.mp h i j hi hj hij
/-- merging pairs with new keys only appends them -/
theorem valV_fresh {kvs : List (Key × V)} {k : Key} (h : k ∉ kvs.map (·.1)) : valV kvs k = none := by
  induction kvs with
  | nil => rfl
  | cons p r ih =>
    have h1 : ¬ p.1 = k := fun e => h (by rw [List.map_cons, e]; exact List.mem_cons_self)
    rw [valV_neg h1]
    exact ih fun m => h (by rw [List.map_cons]; exact List.mem_cons_of_mem _ m)
theorem merge_fresh : ∀ (more kvs : List (Key × V)), ((kvs ++ more).map (·.1)).Nodup → mergeK kvs more = kvs ++ more
  | [], kvs, _ => (List.append_nil kvs).symm
  | p :: r, kvs, h => by
    have h0 : p.1 ∉ kvs.map (·.1) := fun m => by
      rw [List.map_append, List.map_cons] at h
      exact (List.nodup_append.mp h).2.2 _ m _ List.mem_cons_self rfl
    have e : kvs ++ p :: r = (kvs ++ [p]) ++ r := by rw [List.append_assoc]; rfl
    show mergeK (putK kvs p.1 p.2) r = _
    rw [putK_new p.2 (valV_fresh h0)]
    show mergeK (kvs ++ [p]) r = _
    rw [e] at h ⊢
    exact merge_fresh r (kvs ++ [p]) h

/-! ### letters in their order -/
theorem up_letters : ∀ (cs : List Nat) (c : Nat), risingS (txt [c]) (cs.map fun d => txt [d]) = true → (c :: cs).Pairwise (· ≤ ·)
  | [], c, _ => List.pairwise_singleton _ _
  | d :: r, c, h => by
    have h' : (!ltCps [d] [c] && risingS (txt [d]) (r.map fun e => txt [e])) = true := h
    rcases Bool.and_eq_true_iff.mp h' with ⟨g1, g2⟩
    have rest := up_letters r d g2
    have cd : c ≤ d := by
      have g3 : ltCps [d] [c] = false := by simpa using g1
      have g4 : (decide (d < c) || (d == c && ltCps [] [])) = false := g3
      have g5 : decide (d < c) = false := (Bool.or_eq_false_iff.mp g4).1
      have g6 := of_decide_eq_false g5
      omega
    refine List.pairwise_cons.mpr ⟨fun e he => ?_, rest⟩
    rcases List.mem_cons.mp he with q | q
    · omega
    · exact Nat.le_trans cd ((List.pairwise_cons.mp rest).1 e q)
theorem letters_rise {cs : List Nat} (h : sortedS (cs.map fun d => txt [d]) = true) (nd : cs.Nodup) : cs.Pairwise (· < ·) := by
  have up : cs.Pairwise (· ≤ ·) := by
    cases cs with
    | nil => exact .nil
    | cons c r => exact up_letters r c h
  refine up.imp_of_mem (fun {a b} ha hb hab => hab) |>.and nd |>.imp fun {a b} hab => ?_
  have := hab.1
  have := hab.2
  omega
theorem perm_letters {ys : List Str} {cs : List Nat} (h : ys.Perm (cs.map fun d => txt [d])) : ∃ ds : List Nat, ys = ds.map (fun d => txt [d]) ∧ ds.Perm cs := by
  refine ⟨ys.map fun y => y.cps.toList.headD 0, ?_, ?_⟩
  · have back : ∀ y ∈ ys, txt [y.cps.toList.headD 0] = y := fun y hy => by
      obtain ⟨c, _, rfl⟩ := List.mem_map.mp (h.mem_iff.mp hy)
      rfl
    rw [List.map_map]
    exact ((List.map_congr_left back).trans (List.map_id' ys)).symm
  · have h2 := h.map fun y => y.cps.toList.headD 0
    rw [List.map_map] at h2
    have e : ((fun y : Str => y.cps.toList.headD 0) ∘ fun d => txt [d]) = id := funext fun c => rfl
    rw [e, List.map_id] at h2
    exact h2
theorem perm_ints {ys : List V} {ns : List Int} (h : ys.Perm (ns.map V.int)) : ∃ ks : List Int, ys = ks.map V.int ∧ ks.Perm ns := by
  refine ⟨ys.map fun y => match y with | .int i => i | _ => 0, ?_, ?_⟩
  · have back : ∀ y ∈ ys, V.int (match y with | .int i => i | _ => 0) = y := fun y hy => by
      obtain ⟨c, _, rfl⟩ := List.mem_map.mp (h.mem_iff.mp hy)
      rfl
    rw [List.map_map]
    exact ((List.map_congr_left back).trans (List.map_id' ys)).symm
  · have h2 := h.map fun y => match y with | V.int i => i | _ => 0
    rw [List.map_map] at h2
    have e : ((fun y : V => match y with | .int i => i | _ => 0) ∘ V.int) = id := funext fun c => rfl
    rw [e, List.map_id] at h2
    exact h2
def twelve : List Int := [0, 1, 2, 3, 4, 5, 6, 7, 8, 9, 10, 11]
theorem rg12 : rgV 0 12 = twelve.map V.int := rfl
theorem twelve_mem {n : Int} (h : n ∈ twelve) : 0 ≤ n ∧ n < 12 := by
  simp only [twelve, List.mem_cons, List.not_mem_nil, or_false] at h
  omega
theorem alpha_nodup : alpha.Nodup := by decide
theorem twelve_nodup : twelve.Nodup := by decide
theorem gname {i : Nat} {v : V} {σ : L2.St} {H : Hp} {Q : L2.St → Hp → Prop} (h : Q (σ.set i (some v)) H) : gName i v σ H Q := h

/-! ### what the checks of a web promise, of a web that is one -/
def MarksOk (ms : List (Int × Int)) : Prop := (ms.map (·.1)).Nodup ∧ ms.length < 64 ∧ (∀ m ∈ ms, 0 ≤ m.1 ∧ m.1 < 12) ∧ ∀ m ∈ ms, m.2 = 0 ∨ m.2 = 1
/-- letter, address, and the two ends as they stand in the pair -/
def EdgesOk (H : Hp) (ms : List (Int × Int)) (es : List Edg) : Prop := (es.map (·.letter)).Nodup ∧ es.length < 64 ∧ (∀ e ∈ es, e.letter ∈ alpha) ∧
  ∀ e ∈ es, H e.pair = some (.tup [.int e.lo, .int e.hi]) ∧ e.lo ≠ e.hi ∧ e.lo ∈ ms.map (·.1) ∧ e.hi ∈ ms.map (·.1)
theorem EdgesOk.same {H H' : Hp} {ms : List (Int × Int)} {es : List Edg} (h : EdgesOk H ms es) (s : Same H H') : EdgesOk H' ms es :=
  ⟨h.1, h.2.1, h.2.2.1, fun e he => ⟨s _ _ (h.2.2.2 e he).1, (h.2.2.2 e he).2⟩⟩
def spIsNode : Sp := fun vs H Q _ => ∃ n : Int, vs = [.int n] ∧ 0 ≤ n ∧ n < 12 ∧ Q (.bl true) H
def spIsMark : Sp := fun vs H Q _ => ∃ n : Int, vs = [.int n] ∧ (n = 0 ∨ n = 1) ∧ ∀ H', Same H H' → Q (.bl true) H'
def spIsName : Sp := fun vs H Q _ => ∃ c : Nat, vs = [.str (txt [c])] ∧ c ∈ alpha ∧ Q (.bl true) H
def spJoins : Sp := fun vs H Q _ => ∃ (dm p : Addr) (ms : List (Int × Int)) (x y : Int), vs = [.ref dm, .ref p] ∧ H dm = some (.dK (marksK ms)) ∧ H p = some (.tup [.int x, .int y]) ∧ x ≠ y ∧ x ∈ ms.map (·.1) ∧ y ∈ ms.map (·.1) ∧ Q (.bl true) H
def spChkM : Sp := fun vs H Q _ => ∃ (dm : Addr) (ms : List (Int × Int)), vs = [.ref dm] ∧ H dm = some (.dK (marksK ms)) ∧ MarksOk ms ∧ ∀ H', Same H H' → Q .non H'
def spChkE : Sp := fun vs H Q _ => ∃ (dm de : Addr) (ms : List (Int × Int)) (es : List Edg), vs = [.ref dm, .ref de] ∧ H dm = some (.dK (marksK ms)) ∧ H de = some (.dK (endsK es)) ∧ EdgesOk H ms es ∧ ∀ H', Same H H' → Q .non H'
theorem keysM (ms : List (Int × Int)) : (marksK ms).map (·.1) = (ms.map (·.1)).map Sum.inl := by
  unfold marksK
  rw [List.map_map, List.map_map]
  rfl
theorem keysE (es : List Edg) : (endsK es).map (·.1) = (es.map fun e => txt [e.letter]).map Sum.inr := by
  unfold endsK
  rw [List.map_map, List.map_map]
  rfl
/-- what a dict gives under a key that it has once -/
theorem valV_mem {kvs : List (Key × V)} {k : Key} {v : V} (nd : (kvs.map (·.1)).Nodup) (h : (k, v) ∈ kvs) : valV kvs k = some v := by
  induction kvs with
  | nil => cases h
  | cons p r ih =>
    rw [List.map_cons] at nd
    rcases List.nodup_cons.mp nd with ⟨n1, n2⟩
    rcases List.mem_cons.mp h with e | e
    · subst e
      exact valV_pos rfl
    · have ne : ¬ p.1 = k := fun z => n1 (by rw [z]; exact List.mem_map.mpr ⟨(k, v), e, rfl⟩)
      rw [valV_neg ne]
      exact ih n2 e
theorem mark_at {ms : List (Int × Int)} (nd : (ms.map (·.1)).Nodup) {n x : Int} (h : (n, x) ∈ ms) : valV (marksK ms) (Sum.inl n) = some (.int x) := by
  refine valV_mem ?_ (List.mem_map.mpr ⟨(n, x), h, rfl⟩)
  rw [keysM]
  exact List.pairwise_map.mpr (nd.imp fun hac he => hac (Sum.inl.inj he))
theorem mark_some {ms : List (Int × Int)} {n : Int} (h : n ∈ ms.map (·.1)) : ∃ v, valV (marksK ms) (Sum.inl n) = some v := by
  induction ms with
  | nil => cases h
  | cons m r ih =>
    by_cases e : m.1 = n
    · exact ⟨_, valV_pos (p := ((Sum.inl m.1 : Key), V.int m.2)) (congrArg Sum.inl e)⟩
    · rw [List.map_cons] at h
      rcases List.mem_cons.mp h with q | q
      · exact absurd q.symm e
      · obtain ⟨v, hv⟩ := ih q
        refine ⟨v, ?_⟩
        have ne : ¬ ((Sum.inl m.1 : Key) = Sum.inl n) := fun z => e (Sum.inl.inj z)
        show valV (((Sum.inl m.1 : Key), V.int m.2) :: marksK r) (Sum.inl n) = some v
        rw [valV_neg (p := ((Sum.inl m.1 : Key), V.int m.2)) ne]
        exact hv
theorem end_at {es : List Edg} (nd : (es.map (·.letter)).Nodup) {e : Edg} (h : e ∈ es) : valV (endsK es) (Sum.inr (txt [e.letter])) = some (.ref e.pair) := by
  refine valV_mem ?_ (List.mem_map.mpr ⟨e, h, rfl⟩)
  have q : (endsK es).map (·.1) = (es.map (·.letter)).map fun c => (Sum.inr (txt [c]) : Key) := by
    unfold endsK
    rw [List.map_map, List.map_map]
    rfl
  rw [q]
  exact List.pairwise_map.mpr (nd.imp fun hac he => hac (List.head_eq_of_cons_eq (txt_inj (Sum.inr.inj he))))
end Tm

/-! sorted(t), t a tuple of whole numbers: collect, a new list, its sort. -/
namespace Tm
open PySem PySem.Spec PySem.Calls PyProof.Rows L2
theorem call_sortedTup {X : Cx} : CallR X (.builtin "sorted") (fun given H Q => ∃ (t : Addr) (ns : List Int), given = [.ref t] ∧ SqT X.K H t (ns.map V.int) ∧ ns.length < 64 ∧
    ∀ (up : List Int) (p : Addr), up.Perm ns → up.Pairwise (· ≤ ·) → H p = none → Q (.ref p) (upd H p (.lst (up.map V.int)))) :=
  fun pins s σ H given held Q inv rel ask => by
    rcases ask with ⟨t, ns, rfl, stands, few, hand⟩
    match held, rel with
    | [_], .cons rfl .nil =>
      obtain ⟨cells, same, ⟨ob, got, isTup, ver, dat⟩, _⟩ := inv.tuple stands
      have num : cells.length = ns.length := by rw [← same.length, List.length_map]
      have room : cells.length ≤ sizeLine := by rw [num]; exact small64 few
      apply call_function_entry kind_sorted plain_sorted entry_sorted (args_sorted1 _)
      show wpAny _ _ (collect (.ref t) >>= fun vs => newList vs >>= fun l => holding [l] (call (.builtin "list.sort") [l] []) >>= fun _ => ret l) _ _ s
      apply wpAny_bind
      apply wpAny_collect_seq t (.inr rfl) got isTup dat (hsz := by rw [List.size_toArray]; exact room)
      intro heap kept
      have mid : Inv X pins σ H { s with heap := heap } := inv.kept (t' := s.toks) kept
      apply wpAny_bind
      apply wpAny_newList (hsz := by simpa using room)
      have new : (heap.push { cls := .type "list", data := .seq (cells.toArray.toList).toArray }).get? heap.objs.size = some (seqObj "list" cells.toArray 0) := Heap.get?_push_size _ rfl
      have still : ∀ b o, heap.get? b = some o → (heap.push { cls := .type "list", data := .seq (cells.toArray.toList).toArray }).get? b = some o := fun b o e => Heap.get?_push_of_some _ e
      have bigger : heap.objs.size < (heap.push { cls := .type "list", data := .seq (cells.toArray.toList).toArray }).objs.size := Heap.lt_size new
      apply wpAny_bind
      apply wpAny_holding
      refine wpAny_call_entry (T := "list") slot_list_sort ⟨_, new, rfl⟩ entry_list_sort ?_ (args_list_sort _)
      refine list_sort_tree new (Vals.ints same) (by rw [num]; exact few) fun out up whole perm rise => ?_
      refine ⟨_, rfl, wpAny_pure ⟨_, rfl, V.ref heap.objs.size, upd H heap.objs.size (.lst (up.map V.int)), ?_, rfl, hand up _ perm rise (mid.hok.fresh (Nat.le_refl _))⟩⟩
      obtain ⟨stamp, there⟩ := sortedHeap_at (out := out) new
      refine mid.laid (t' := s.toks) (fun b o e => ?_) (Nat.le_refl _) ⟨?_, out.toList, stamp, vals_of_ints whole, there⟩
      · rw [sortedHeap_old (Nat.ne_of_lt (Heap.lt_size e)) (Nat.lt_trans (Heap.lt_size e) bigger)]
        exact still b o e
      · rw [List.length_map, perm.length_eq]
        exact small64 few
end Tm

/-! Webs as they stand in memory. -/
namespace Tm
open PySem PySem.Spec PyProof.Rows L2

/-- a dict comprehension over anything that is walked: the reading of one whose walk J stands already -/
theorem dc_walk {J : It} {n : Nat} {G : Hp → Prop} {Y : Nat → Hp → V → Hp → Prop} (w : Walk J n G Y) {g : TG} {tt : TT} {tk tv : TE} {vs : List Nat} {σ : L2.St} {H1 : Hp} {Q : VK} (Pv : Addr → Nat → Hp → Prop)
    (start : ∀ D, H1 D = none → Pv D 0 (upd H1 D (.dK []))) (hG : ∀ D i H, i ≤ n → Pv D i H → G H)
    (turn : ∀ D i x H H', H1 D = none → i < n → Pv D i H → Y i H x H' → g x (wipe σ vs) H' fun σ2 H2 => wipe σ2 vs = wipe σ vs ∧ tt σ2 H2 fun b H3 => if b = true then (tk σ2 H3 fun y H4 => tv σ2 H4 fun z H5 =>
      ∃ kvs k, y = kV k ∧ H5 D = some (.dK kvs) ∧ kvs.length < sizeLine ∧ Pv D (i + 1) (upd H5 D (.dK (putK kvs k z)))) else Pv D (i + 1) H3)
    (done : ∀ D H, H1 D = none → Pv D n H → Q (.ref D) H) : tDc (fun _ H R => R J H) g tt tk tv vs σ H1 Q := by
  intro D fresh
  refine ⟨fun i m H => i + m = n ∧ Pv D i H, ⟨n, Nat.zero_add n, start D fresh⟩, ?_⟩
  intro i m H here
  cases m with
  | zero =>
    have last : i = n := here.1
    subst last
    exact .inl ⟨w.stops H (hG D i H (Nat.le_refl i) here.2), done D H fresh here.2⟩
  | succ k =>
    have lt : i < n := by have := here.1; omega
    have g0 := hG D i H (Nat.le_of_lt lt) here.2
    exact .inr ⟨w.goes i H lt g0, Pv D (i + 1), fun H' p => ⟨k, Nat.lt_succ_self k, by have := here.1; omega, p⟩, fun x H' y => turn D i x H H' fresh lt here.2 (w.yields i H x H' lt g0 y)⟩

/-! ### the fields -/
theorem ne_mp : ¬ (("marks" : Str) = "pairs") := by decide +kernel
theorem ne_ms : ¬ (("marks" : Str) = "stars") := by decide +kernel
theorem ne_ps : ¬ (("pairs" : Str) = "stars") := by decide +kernel
def webF (a1 a2 a3 : Addr) : List (Str × V) := putF "stars" (.ref a3) (putF "pairs" (.ref a2) (putF "marks" (.ref a1) []))
theorem webF_marks (a1 a2 a3 : Addr) : (webF a1 a2 a3).lookup ("marks" : Str) = some (.ref a1) := by
  unfold webF
  rw [lookup_putF, if_neg ne_ms, lookup_putF, if_neg ne_mp, lookup_putF, if_pos rfl]
theorem webF_pairs (a1 a2 a3 : Addr) : (webF a1 a2 a3).lookup ("pairs" : Str) = some (.ref a2) := by
  unfold webF
  rw [lookup_putF, if_neg ne_ps, lookup_putF, if_pos rfl]
theorem webF_stars (a1 a2 a3 : Addr) : (webF a1 a2 a3).lookup ("stars" : Str) = some (.ref a3) := by
  unfold webF
  rw [lookup_putF, if_pos rfl]
/-- the letters of the edges at a node -/
def star (es : List Edg) (n : Int) : List Nat := (es.filter fun e => decide (e.lo = n ∨ e.hi = n)).map (·.letter)
def starsK (ms : List (Int × Int)) (es : List Edg) : List (Key × V) := ms.map fun m => (Sum.inl m.1, V.str (txt (star es m.1)))
def WebAt (C : Addr) (H : Hp) (x : Addr) (ms : List (Int × Int)) (es : List Edg) : Prop :=
  ∃ dx a1 a2 a3 : Addr, H x = some (.ins C dx (webF a1 a2 a3)) ∧ H a1 = some (.dK (marksK ms)) ∧ H a2 = some (.dK (endsK es)) ∧ H a3 = some (.dK (starsK ms es)) ∧ RawOk H ms es
/-- what a web made of these dicts holds: the same nodes and marks, the same edges, each pair rising -/
def Made (ms ms' : List (Int × Int)) (es es' : List Edg) : Prop :=
  ms'.Perm ms ∧ (es'.map fun e => (e.letter, e.lo, e.hi)).Perm (es.map fun e => (e.letter, min e.lo e.hi, max e.lo e.hi))
def spWInit (C : Addr) : Sp := fun vs H Q _ => ∃ (x dx dm de : Addr) (ms : List (Int × Int)) (es : List Edg), vs = [.ref x, .ref dm, .ref de] ∧ H x = some (.ins C dx []) ∧ H dm = some (.dK (marksK ms)) ∧ H de = some (.dK (endsK es)) ∧
  MarksOk ms ∧ EdgesOk H ms es ∧ ∀ H' ms' es', Kp x H H' → WebAt C H' x ms' es' → Made ms ms' es es' → Q .non H'

/-! ### tuple(list) and sorted(tuple) of things that stand in the heap: rules that name no written part -/
theorem tupNew {X : Cx} : CallR X (.type "tuple") (fun given H Q => ∃ p ys, given = [.ref p] ∧ H p = some (.lst ys) ∧ ∀ l, H l = none → Q (.ref l) (upd H l (.tup ys))) :=
  fun pins s σ H given held Q inv rel ask => by
    obtain ⟨p, ys, e, hp, q⟩ := ask
    exact call_tuple_of pins s σ H given held Q inv rel ⟨p, ys, e, .inl ⟨SqL.of hp, q⟩⟩
theorem sortPair {X : Cx} : CallR X (.builtin "sorted") (fun given H Q => ∃ (t : Addr) (i j : Int), given = [.ref t] ∧ H t = some (.tup [.int i, .int j]) ∧ ∀ l, H l = none → Q (.ref l) (upd H l (.lst [.int (min i j), .int (max i j)]))) :=
  fun pins s σ H given held Q inv rel ask => by
    obtain ⟨t, i, j, e, ht, q⟩ := ask
    refine call_sortedTup pins s σ H given held Q inv rel ⟨t, [i, j], e, .inl (.inl ht), by show 2 < 64; decide, fun up l perm rise fresh => ?_⟩
    have two : up = [min i j, max i j] := by
      have len : up.length = 2 := perm.length_eq
      match up, len with
      | [a, b], _ =>
        have le : a ≤ b := (List.pairwise_cons.mp rise).1 b List.mem_cons_self
        have ma : a ∈ [i, j] := perm.mem_iff.mp List.mem_cons_self
        have mi : i ∈ [a, b] := perm.mem_iff.mpr List.mem_cons_self
        have mj : j ∈ [a, b] := perm.mem_iff.mpr (List.mem_cons_of_mem _ List.mem_cons_self)
        have mb : b ∈ [i, j] := perm.mem_iff.mp (List.mem_cons_of_mem _ List.mem_cons_self)
        simp only [List.mem_cons, List.not_mem_nil, or_false] at ma mi mj mb
        have e1 : a = min i j := by omega
        have e2 : b = max i j := by omega
        rw [e1, e2]
    rw [two]
    exact q l fresh

/-! ### self.f = {.. for .. in ..} -/
theorem fld_dc {K : PySem.W.Frag} {wi : TI} {g : TG} {tt : TT} {tk tv : TE} {vs : List Nat} {f : Str} {D : Ends} {σ : L2.St} {H : Hp} {ta : TE} (S : It → Hp → Prop) (walks : ∀ R : It → Hp → Prop, (∀ J H1, S J H1 → R J H1) → wi σ H R)
    (body : ∀ J H1, S J H1 → tDc (fun _ Hs R => R J Hs) g tt tk tv vs σ H1 (fun y Hy => sFld K ta (fun _ _ R => R y Hy) f D σ Hy)) : sFld K ta (tDc wi g tt tk tv vs) f D σ H := walks _ body

/-! ### arrangements -/
/-- an arrangement of the images comes of an arrangement -/
theorem perm_lift {α β : Type} (f : α → β) : ∀ (ks : List β) (l : List α), ks.Perm (l.map f) → ∃ l' : List α, l'.Perm l ∧ l'.map f = ks
  | [], l, h => by
    have e : l.map f = [] := List.perm_nil.mp h.symm
    have e2 : l = [] := List.map_eq_nil_iff.mp e
    exact ⟨[], by rw [e2], rfl⟩
  | k :: r, l, h => by
    have hk : k ∈ l.map f := h.mem_iff.mp List.mem_cons_self
    obtain ⟨a, ha, rfl⟩ := List.mem_map.mp hk
    obtain ⟨u, w, rfl⟩ := List.append_of_mem ha
    have move : (u ++ a :: w).Perm (a :: (u ++ w)) := List.perm_middle
    have rest : r.Perm ((u ++ w).map f) := by
      have h2 : (f a :: r).Perm (f a :: (u ++ w).map f) := h.trans (move.map f)
      exact (List.perm_cons (f a)).mp h2
    obtain ⟨l', p, e⟩ := perm_lift f r (u ++ w) rest
    exact ⟨a :: l', (p.cons a).trans move.symm, by rw [List.map_cons, e]⟩
theorem marksK_take {ms : List (Int × Int)} {i : Nat} (hi : i < ms.length) (nd : (ms.map (·.1)).Nodup) : putK (marksK (ms.take i)) (Sum.inl ms[i].1) (.int ms[i].2) = marksK (ms.take (i + 1)) := by
  have fresh : (Sum.inl ms[i].1 : Key) ∉ (marksK (ms.take i)).map (·.1) := fun z => by
    rw [keysM] at z
    obtain ⟨n, hn, e⟩ := List.mem_map.mp z
    have e2 : n = ms[i].1 := Sum.inl.inj e
    rw [e2, List.map_take] at hn
    obtain ⟨j, hj, ej⟩ := List.mem_iff_getElem.mp hn
    rw [List.length_take, List.length_map] at hj
    rw [List.getElem_take, List.getElem_map] at ej
    have apart := List.pairwise_iff_getElem.mp nd j i (by rw [List.length_map]; omega) (by rw [List.length_map]; exact hi) (by omega)
    rw [List.getElem_map, List.getElem_map] at apart
    exact apart ej
  rw [putK_new _ (valV_fresh fresh), List.take_succ_eq_append_getElem hi]
  unfold marksK
  rw [List.map_append]
  rfl

/-! ### behind a lock -/
theorem unlock {H H' : Hp} {a : Addr} {o : Obj} {u : HO} (here : H a = some u) (s : Same (upd H a (.frz o u)) H') : Same H (upd H' a u) := fun q w hq => by
  by_cases e : q = a
  · subst e
    rw [upd_same, ← here, hq]
  · rw [upd_ne e]
    exact s q w (by rw [upd_ne e]; exact hq)
theorem star_take {es : List Edg} {n : Int} {j : Nat} (hj : j < es.length) : star (es.take (j + 1)) n = star (es.take j) n ++ (if es[j].lo = n ∨ es[j].hi = n then [es[j].letter] else []) := by
  rw [List.take_succ_eq_append_getElem hj]
  unfold star
  rw [List.filter_append, List.map_append]
  congr 1
  by_cases c : es[j].lo = n ∨ es[j].hi = n
  · rw [if_pos c]
    simp [c]
  · rw [if_neg c]
    simp only [not_or] at c
    simp [c.1, c.2]
theorem star_len (es : List Edg) (n : Int) : (star es n).length ≤ es.length := by
  unfold star
  rw [List.length_map]
  exact List.length_filter_le _ _
theorem in_two (n a b : Int) : inV (.int n) [.int a, .int b] = decide (a = n ∨ b = n) := by
  show ((a == n) || ((b == n) || false)) = _
  by_cases c1 : a = n <;> by_cases c2 : b = n <;> simp [c1, c2]
theorem starsK_take {ms : List (Int × Int)} {es : List Edg} {i : Nat} (hi : i < ms.length) (nd : (ms.map (·.1)).Nodup) :
    putK (starsK (ms.take i) es) (Sum.inl ms[i].1) (.str (txt (star es ms[i].1))) = starsK (ms.take (i + 1)) es := by
  have keys : (starsK (ms.take i) es).map (·.1) = (marksK (ms.take i)).map (·.1) := by
    unfold starsK marksK
    rw [List.map_map, List.map_map]
    rfl
  have fresh : (Sum.inl ms[i].1 : Key) ∉ (starsK (ms.take i) es).map (·.1) := fun z => by
    rw [keys, keysM] at z
    obtain ⟨n, hn, e⟩ := List.mem_map.mp z
    have e2 : n = ms[i].1 := Sum.inl.inj e
    rw [e2, List.map_take] at hn
    obtain ⟨j, hj, ej⟩ := List.mem_iff_getElem.mp hn
    rw [List.length_take, List.length_map] at hj
    rw [List.getElem_take, List.getElem_map] at ej
    have apart := List.pairwise_iff_getElem.mp nd j i (by rw [List.length_map]; omega) (by rw [List.length_map]; exact hi) (by omega)
    rw [List.getElem_map, List.getElem_map] at apart
    exact apart ej
  rw [putK_new _ (valV_fresh fresh), List.take_succ_eq_append_getElem hi]
  unfold starsK
  rw [List.map_append]
  rfl

/-! ### what the methods promise, of a web that stands, asked for what it has -/
theorem webF_no (a1 a2 a3 : Addr) {m : Str} (h1 : ¬ m = "marks") (h2 : ¬ m = "pairs") (h3 : ¬ m = "stars") : (webF a1 a2 a3).lookup m = none := by
  unfold webF
  rw [lookup_putF, if_neg h3, lookup_putF, if_neg h2, lookup_putF, if_neg h1]
  rfl
def spChkN (C : Addr) : Sp := fun vs H Q _ => ∃ (x : Addr) (n : Int) (ms : List (Int × Int)) (es : List Edg), vs = [.ref x, .int n] ∧ WebAt C H x ms es ∧ n ∈ ms.map (·.1) ∧ Q .non H
def spChkD (C : Addr) : Sp := fun vs H Q _ => ∃ (x : Addr) (e : Edg) (ms : List (Int × Int)) (es : List Edg), vs = [.ref x, .str (txt [e.letter])] ∧ WebAt C H x ms es ∧ e ∈ es ∧ Q .non H
def spNodes (C : Addr) : Sp := fun vs H Q _ => ∃ (x : Addr) (ms : List (Int × Int)) (es : List Edg), vs = [.ref x] ∧ WebAt C H x ms es ∧ ∀ p, H p = none → Q (.ref p) (upd H p (.lst ((ms.map (·.1)).map V.int)))
def spEdges (C : Addr) : Sp := fun vs H Q _ => ∃ (x : Addr) (ms : List (Int × Int)) (es : List Edg), vs = [.ref x] ∧ WebAt C H x ms es ∧ ∀ p, H p = none → Q (.ref p) (upd H p (.lst ((es.map (·.letter)).map sig)))
def spMark (C : Addr) : Sp := fun vs H Q _ => ∃ (x : Addr) (n k : Int) (ms : List (Int × Int)) (es : List Edg), vs = [.ref x, .int n] ∧ WebAt C H x ms es ∧ (n, k) ∈ ms ∧ Q (.int k) H
def spEnds (C : Addr) : Sp := fun vs H Q _ => ∃ (x : Addr) (e : Edg) (ms : List (Int × Int)) (es : List Edg), vs = [.ref x, .str (txt [e.letter])] ∧ WebAt C H x ms es ∧ e ∈ es ∧ Q (.ref e.pair) H
def spLWeb (C : Addr) : Sp := fun vs H Q _ => ∃ (t : Addr) (ms : List (Int × Int)) (es : List Edg), vs = [.ref t] ∧ RawAt H t ms es ∧ ms.length < 64 ∧ es.length < 64 ∧
  ∀ H' x ms' es', Same H H' → WebAt C H' x ms' es' → Made ms ms' es es' → Q (.ref x) H'

/-! ### a web against drawn dicts -/
theorem one_order_int : ∀ (a b : List Int), a.Perm b → a.Pairwise (· ≤ ·) → b.Pairwise (· ≤ ·) → a = b
  | [], b, p, _, _ => (List.perm_nil.mp p.symm).symm
  | x :: r, [], p, _, _ => absurd p.length_eq (by simp)
  | x :: r, y :: t, p, ha, hb => by
    have hx : x ∈ y :: t := p.mem_iff.mp List.mem_cons_self
    have hy : y ∈ x :: r := p.mem_iff.mpr List.mem_cons_self
    have xy : x ≤ y := by
      rcases List.mem_cons.mp hy with e | e
      · omega
      · exact (List.pairwise_cons.mp ha).1 y e
    have yx : y ≤ x := by
      rcases List.mem_cons.mp hx with e | e
      · omega
      · exact (List.pairwise_cons.mp hb).1 x e
    have e : x = y := by omega
    subst e
    rw [one_order_int r t ((List.perm_cons x).mp p) (List.pairwise_cons.mp ha).2 (List.pairwise_cons.mp hb).2]
theorem one_order_nat {a b : List Nat} (p : a.Perm b) (ha : a.Pairwise (· < ·)) (hb : b.Pairwise (· < ·)) : a = b := by
  have h := one_order_int (a.map Int.ofNat) (b.map Int.ofNat) (p.map _) (List.pairwise_map.mpr (ha.imp fun h => by simp; omega)) (List.pairwise_map.mpr (hb.imp fun h => by simp; omega))
  have back := congrArg (List.map Int.toNat) h
  rw [List.map_map, List.map_map] at back
  have e : (Int.toNat ∘ Int.ofNat) = id := funext fun n => rfl
  rw [e, List.map_id, List.map_id] at back
  exact back
/-- a drawn web whose dicts stand in any order -/
def RawG (H : Hp) (t : Addr) (ms : List (Int × Int)) (es : List Edg) : Prop :=
  ∃ dm de : Addr, H t = some (.tup [.ref dm, .ref de]) ∧ H dm = some (.dK (marksK ms)) ∧ H de = some (.dK (endsK es)) ∧ MarksOk ms ∧ EdgesOk H ms es ∧ ∀ e ∈ es, e.lo < e.hi
theorem RawG.same {H H' : Hp} {t : Addr} {ms : List (Int × Int)} {es : List Edg} (r : RawG H t ms es) (s : Same H H') : RawG H' t ms es := by
  obtain ⟨dm, de, h1, h2, h3, h4, h5, h6⟩ := r
  exact ⟨dm, de, s _ _ h1, s _ _ h2, s _ _ h3, h4, h5.same s, h6⟩
theorem WebAt.same {C : Addr} {H H' : Hp} {x : Addr} {ms : List (Int × Int)} {es : List Edg} (r : WebAt C H x ms es) (s : Same H H') : WebAt C H' x ms es := by
  obtain ⟨dx, a1, a2, a3, h1, h2, h3, h4, h5⟩ := r
  exact ⟨dx, a1, a2, a3, s _ _ h1, s _ _ h2, s _ _ h3, s _ _ h4, ⟨h5.rise, h5.node, h5.mark, h5.risE, h5.name, fun e he => s _ _ (h5.pair e he), h5.less, h5.ends⟩⟩
def tri (e : Edg) : Nat × Int × Int := (e.letter, e.lo, e.hi)
def spIsWeb (C : Addr) : Sp := fun vs H Q _ => ∃ (x t : Addr) (ms ms0 : List (Int × Int)) (es es0 : List Edg), vs = [.ref x, .ref t] ∧ WebAt C H x ms es ∧ RawG H t ms0 es0 ∧ ms.Perm ms0 ∧ (es.map tri).Perm (es0.map tri) ∧ ∀ H', Same H H' → Q (.bl true) H'
theorem eqv_ints {H : Hp} {p q : Addr} {ks : List Int} {n : Nat} (hp : H p = some (.lst (ks.map V.int))) (hq : H q = some (.lst (ks.map V.int))) (few : ks.length ≤ 10000) : Eqv H (n + 1) (.ref p) (.ref q) :=
  .lst hp hq rfl (by rw [List.length_map]; exact few) fun i x y hx hy => by
    have e : x = y := Option.some.inj (hx.symm.trans hy)
    subst e
    obtain ⟨k, _, rfl⟩ := List.mem_map.mp (List.mem_of_getElem? hx)
    exact .int _ _
theorem eqv_sigs {H : Hp} {p q : Addr} {cs : List Nat} {n : Nat} (hp : H p = some (.lst (cs.map sig))) (hq : H q = some (.lst (cs.map sig))) (few : cs.length ≤ 10000) : Eqv H (n + 1) (.ref p) (.ref q) :=
  .lst hp hq rfl (by rw [List.length_map]; exact few) fun i x y hx hy => by
    have e : x = y := Option.some.inj (hx.symm.trans hy)
    subst e
    obtain ⟨k, _, rfl⟩ := List.mem_map.mp (List.mem_of_getElem? hx)
    exact .str _ _
theorem eqv_pair {H : Hp} {p q : Addr} {i j : Int} {n : Nat} (hp : H p = some (.tup [.int i, .int j])) (hq : H q = some (.tup [.int i, .int j])) : Eqv H (n + 1) (.ref p) (.ref q) :=
  .tup hp hq rfl (by show 2 ≤ 10000; decide) fun k x y hx hy => by
    have e : x = y := Option.some.inj (hx.symm.trans hy)
    subst e
    have m : x ∈ [V.int i, V.int j] := List.mem_of_getElem? hx
    rcases List.mem_cons.mp m with rfl | m
    · exact .int _ _
    · rw [List.mem_singleton.mp m]
      exact .int _ _

/-! ### lists of pairs -/
def PairsAt (H : Hp) (p : Addr) (prs : List (Int × Int)) : Prop :=
  ∃ ps : List Addr, H p = some (.lst (ps.map V.ref)) ∧ ps.length = prs.length ∧ ∀ (j : Nat) (q : Addr) (z : Int × Int), ps[j]? = some q → prs[j]? = some z → H q = some (.tup [.int z.1, .int z.2])
theorem PairsAt.same {H H' : Hp} {p : Addr} {prs : List (Int × Int)} (h : PairsAt H p prs) (s : Same H H') : PairsAt H' p prs := by
  obtain ⟨ps, h1, h2, h3⟩ := h
  exact ⟨ps, s _ _ h1, h2, fun j q z a b => s _ _ (h3 j q z a b)⟩
theorem PairsAt.keep {H H' : Hp} {b p : Addr} {prs : List (Int × Int)} (h : PairsAt H p prs) (hb : ∃ u, H b = some (.lst u)) (np : p ≠ b) (k : Kp b H H') : PairsAt H' p prs := by
  obtain ⟨ps, h1, h2, h3⟩ := h
  obtain ⟨u, hb⟩ := hb
  exact ⟨ps, k _ _ np h1, h2, fun j q z x y => k _ _ (ne_of (h3 j q z x y) hb (by intro e; cases e)) (h3 j q z x y)⟩
theorem Bag.hbl {H : Hp} {b l : Addr} (B : Bag H b l) : ∃ u, H b = some (.lst u) := by
  obtain ⟨xs, i, n, s, h, _⟩ := B
  exact ⟨_, h⟩
def GoodPairs (size : Int) (prs : List (Int × Int)) : Prop := ∀ z ∈ prs, 0 ≤ z.1 ∧ z.1 < size ∧ 0 ≤ z.2 ∧ z.2 < size ∧ z.1 ≠ z.2
def spPairs (prs : List (Int × Int)) : Sp := fun vs H Q _ => vs = [] ∧ ∀ H' p, Same H H' → H p = none → PairsAt H' p prs → Q (.ref p) H'
def fiveP : List (Int × Int) := [(0, 1), (0, 2), (0, 3), (0, 4), (1, 2), (1, 3), (1, 4), (2, 3), (2, 4), (3, 4)]
def sixP : List (Int × Int) := [(0, 3), (0, 4), (0, 5), (1, 3), (1, 4), (1, 5), (2, 3), (2, 4), (2, 5)]
/-- the pairs of a display, one tuple after another -/
inductive Laid : Hp → List (Int × Int) → List Addr → Hp → Prop
  | nil (H : Hp) : Laid H [] [] H
  | cons {H H' : Hp} {z : Int × Int} {r : List (Int × Int)} {q : Addr} {qs : List Addr} (new : H q = none) (rest : Laid (upd H q (.tup [.int z.1, .int z.2])) r qs H') : Laid H (z :: r) (q :: qs) H'
theorem Laid.same {H H' : Hp} {prs : List (Int × Int)} {qs : List Addr} (h : Laid H prs qs H') : Same H H' := by
  induction h with
  | nil H => exact Same.refl H
  | cons new _ ih => exact (same_upd new).trans ih
theorem Laid.at {H H' : Hp} {prs : List (Int × Int)} {qs : List Addr} (h : Laid H prs qs H') : qs.length = prs.length ∧ ∀ (j : Nat) (q : Addr) (z : Int × Int), qs[j]? = some q → prs[j]? = some z → H' q = some (.tup [.int z.1, .int z.2]) := by
  induction h with
  | nil H => exact ⟨rfl, fun j q z hq => by cases hq⟩
  | @cons H H' z r q qs new rest ih =>
    refine ⟨by rw [List.length_cons, List.length_cons, ih.1], fun j q' z' hq hz => ?_⟩
    cases j with
    | zero =>
      cases hq
      cases hz
      exact rest.same _ _ upd_same
    | succ j => exact ih.2 j q' z' hq hz
/-- a list of such tuples, laid last -/
theorem pairs_laid {H H' : Hp} {prs : List (Int × Int)} {qs : List Addr} {p : Addr} (h : Laid H prs qs H') (new : H' p = none) : PairsAt (upd H' p (.lst (qs.map V.ref))) p prs := by
  refine ⟨qs, upd_same, h.at.1, fun j q z hq hz => ?_⟩
  have st := h.at.2 j q z hq hz
  rw [upd_ne (ne_of_none st new)]
  exact st
def spRen : Sp := fun vs H Q _ => ∃ (b l : Addr) (size : Int) (pp : Addr) (prs : List (Int × Int)), vs = [.ref b, .int size, .ref pp] ∧ Bag H b l ∧ PairsAt H pp prs ∧ pp ≠ b ∧ 0 ≤ size ∧ size ≤ 12 ∧ GoodPairs size prs ∧ prs.length ≤ 24 ∧
  ∀ H' t ms es, Kp b H H' → Bag H' b l → RawG H' t ms es → Q (.ref t) H'

/-- the same, each pair with its address -/
def PairsZ (H : Hp) (p : Addr) (pz : List (Addr × Int × Int)) : Prop := H p = some (.lst (pz.map fun a => V.ref a.1)) ∧ ∀ a ∈ pz, H a.1 = some (.tup [.int a.2.1, .int a.2.2])
theorem PairsAt.z {H : Hp} {p : Addr} {prs : List (Int × Int)} (h : PairsAt H p prs) : ∃ pz, PairsZ H p pz ∧ pz.map (·.2) = prs := by
  obtain ⟨ps, h1, h2, h3⟩ := h
  refine ⟨ps.zip prs, ⟨?_, fun a ha => ?_⟩, List.map_snd_zip (by omega)⟩
  · have e : (ps.zip prs).map (fun a => V.ref a.1) = ((ps.zip prs).map (·.1)).map V.ref := by rw [List.map_map]; rfl
    rw [e, List.map_fst_zip (by omega)]
    exact h1
  · obtain ⟨j, hj, e⟩ := List.mem_iff_getElem.mp ha
    have g : (ps.zip prs)[j]? = some a := by rw [List.getElem?_eq_getElem hj, e]
    obtain ⟨g1, g2⟩ := List.getElem?_zip_eq_some.mp g
    exact h3 j a.1 a.2 g1 g2
theorem PairsZ.at {H : Hp} {p : Addr} {pz : List (Addr × Int × Int)} (h : PairsZ H p pz) : PairsAt H p (pz.map (·.2)) := by
  refine ⟨pz.map (·.1), by rw [h.1, List.map_map]; rfl, by rw [List.length_map, List.length_map], fun j q z hq hz => ?_⟩
  rw [List.getElem?_map] at hq hz
  cases e : pz[j]? with
  | none => rw [e] at hq; cases hq
  | some a =>
    rw [e] at hq hz
    cases hq
    cases hz
    exact h.2 a (List.mem_of_getElem? e)
theorem PairsZ.keep {H H' : Hp} {b p : Addr} {pz : List (Addr × Int × Int)} (h : PairsZ H p pz) (hb : ∃ u, H b = some (.lst u)) (np : p ≠ b) (k : Kp b H H') : PairsZ H' p pz := by
  obtain ⟨u, hb⟩ := hb
  exact ⟨k _ _ np h.1, fun a ha => k _ _ (ne_of (h.2 a ha) hb (by intro e; cases e)) (h.2 a ha)⟩
theorem PairsZ.same {H H' : Hp} {p : Addr} {pz : List (Addr × Int × Int)} (h : PairsZ H p pz) (s : Same H H') : PairsZ H' p pz := ⟨s _ _ h.1, fun a ha => s _ _ (h.2 a ha)⟩
/-- the list at p written anew with pairs that stand -/
theorem PairsZ.put {H : Hp} {p : Addr} {pz : List (Addr × Int × Int)} {u : List V} (hp : H p = some (.lst u)) (h : ∀ a ∈ pz, H a.1 = some (.tup [.int a.2.1, .int a.2.2])) : PairsZ (upd H p (.lst (pz.map fun a => V.ref a.1))) p pz :=
  ⟨upd_same, fun a ha => by rw [upd_ne (ne_of (h a ha) hp (by intro e; cases e))]; exact h a ha⟩
theorem erase_map {α β : Type} (f : α → β) : ∀ (l : List α) (k : Nat), (l.map f).eraseIdx k = (l.eraseIdx k).map f
  | [], _ => rfl
  | _ :: _, 0 => rfl
  | x :: r, k + 1 => by
    show f x :: (r.map f).eraseIdx k = f x :: (r.eraseIdx k).map f
    rw [erase_map f r k]
def spHard : Sp := fun vs H Q _ => ∃ (b l : Addr), vs = [.ref b] ∧ Bag H b l ∧ ∀ H' t ms es, Kp b H H' → Bag H' b l → RawG H' t ms es → Q (.ref t) H'
theorem RawAt.g {H : Hp} {t : Addr} {ms : List (Int × Int)} {es : List Edg} (h : RawAt H t ms es) (mf : ms.length < 64) (ef : es.length < 64) : RawG H t ms es := by
  obtain ⟨dm, de, h1, h2, h3, ok⟩ := h
  refine ⟨dm, de, h1, h2, h3, ⟨ok.rise.imp fun hab e => by rw [e] at hab; exact Int.lt_irrefl _ hab, mf, ok.node, ok.mark⟩, ⟨ok.risE.imp fun hab e => by rw [e] at hab; exact Nat.lt_irrefl _ hab, ef, ok.name, fun e he => ⟨ok.pair e he, ?_, ok.ends e he⟩⟩, ok.less⟩
  have := ok.less e he
  omega
/-- nodes from 0 to 11, rising: at most twelve -/
theorem few_nodes : ∀ (ks : List Int) (a : Int), (∀ k ∈ ks, a ≤ k ∧ k < 12) → ks.Pairwise (· < ·) → a ≤ 12 → (ks.length : Int) ≤ 12 - a
  | [], a, _, _, h => by simp; omega
  | k :: r, a, h, p, ha => by
    have hk := h k List.mem_cons_self
    have rest := few_nodes r (k + 1) (fun j hj => ⟨by have := (List.pairwise_cons.mp p).1 j hj; omega, (h j (List.mem_cons_of_mem _ hj)).2⟩) (List.pairwise_cons.mp p).2 (by omega)
    rw [List.length_cons]
    omega
theorem few_letters : ∀ (cs : List Nat) (a : Nat), (∀ c ∈ cs, a ≤ c ∧ c < 121) → cs.Pairwise (· < ·) → a ≤ 121 → cs.length + a ≤ 121
  | [], a, _, _, h => by simp; omega
  | c :: r, a, h, p, ha => by
    have hc := h c List.mem_cons_self
    have rest := few_letters r (c + 1) (fun j hj => ⟨by have := (List.pairwise_cons.mp p).1 j hj; omega, (h j (List.mem_cons_of_mem _ hj)).2⟩) (List.pairwise_cons.mp p).2 (by omega)
    rw [List.length_cons]
    omega
theorem alpha_range {c : Nat} (h : c ∈ alpha) : 97 ≤ c ∧ c < 121 := by
  simp only [alpha, List.mem_cons, List.not_mem_nil, or_false] at h
  omega
theorem RawAt.gen {H : Hp} {t : Addr} {ms : List (Int × Int)} {es : List Edg} (h : RawAt H t ms es) : RawG H t ms es := by
  obtain ⟨dm, de, h1, h2, h3, ok⟩ := id h
  have a := few_nodes (ms.map (·.1)) 0 (fun k hk => by obtain ⟨m, hm, rfl⟩ := List.mem_map.mp hk; exact ok.node m hm) ok.rise (by decide)
  have c := few_letters (es.map (·.letter)) 97 (fun k hk => by obtain ⟨e, he, rfl⟩ := List.mem_map.mp hk; exact alpha_range (ok.name e he)) ok.risE (by decide)
  rw [List.length_map] at a c
  exact h.g (by omega) (by omega)
end Tm

namespace T02
open PySem PySem.Spec PyProof.Rows L2 Tm
def topS (i : Nat) : Stmt := PySem.Challenge.pw_threadmark_k02_invalid_webs.main.body.getD i (.Pass ⟨0, 0, 0, 0⟩)
abbrev sBag : Stmt := topS 19
abbrev sPull : Stmt := topS 20
abbrev sOf : Stmt := topS 21
theorem scBag : FnScope ["_law_script", "_law_salt", "_law_cell"] ["_law_script"] (defScope sBag) := ⟨rfl, rfl, rfl, by decide +kernel, rfl, by decide +kernel, by decide +kernel⟩
theorem scPull : FnScope ["_law_bag_here", "_law_many", "_law_cell", "_law_digit", "_law_square"] ["_law_bag_here", "_law_many"] (defScope sPull) := ⟨rfl, rfl, rfl, by decide +kernel, rfl, by decide +kernel, by decide +kernel⟩
theorem scOf : FnScope ["_law_bag_here", "_law_things"] ["_law_bag_here", "_law_things"] (defScope sOf) := ⟨rfl, rfl, rfl, by decide +kernel, rfl, by decide +kernel, by decide +kernel⟩
section
variable {P : Program} {w : World} {K : PySem.W.Frag} {mg : Str → Option Value} {base : Heap}
theorem ok_bag {f : Addr} {fd : FuncData} (F : Fun K "_law_bag" "_law_bag" sBag f fd) (ml : mg "list" = none) : FnOk P w K mg base CX0 1 f fd ["_law_script"] (spBag K) := by
  refine F.ok scBag (fun vs H Q E h => ?_) (fun cdv A outer s H vs Q E hr h => ?_)
  · obtain ⟨a, ns, rfl, _⟩ := h
    rfl
  · obtain ⟨a, ns, rfl, hS, q⟩ := h
    refine ⟨_, pss_cons (ps_set (i := 1) scBag.nd rfl (.inl rfl) pe_int)
      (pss_cons (ps_for PassesOwn.never rfl (pi_list (pe_slice sl_list (pv 0) po_none (po_some pe_int))) (pg_name (i := 2) scBag.nd rfl (.inl rfl))
        (pss_one (ps_set (i := 1) scBag.nd rfl (.inl rfl) (pe_op op_mod (pe_op op_add (pe_op op_add (pe_op op_mul (pv 1) pe_int) (pe_op op_mod (pv 2) pe_int)) pe_int) pe_int))))
      (pss_one (ps_ret (pe_lst (pa_cons (pe_callTy call_list_of (by rfl) ml boot_list (pa_cons (pe_slice sl_list (pv 0) po_none (po_some pe_int)) pa_nil)) (pa_cons pe_int (pa_cons pe_int (pa_cons (pv 1) pa_nil)))))))), ?_⟩
    refine ⟨.ref a, rfl, 63, rfl, a, ns.map V.int, rfl, hS, fun p np => ?_⟩
    have s1 : Same H (upd H p (.lst (cutV (ns.map V.int) none (some 63)))) := same_upd np
    refine ⟨p, rfl, ⟨_, .inl (.inl upd_same)⟩, for_list (K := K) (a := p) (xs := cutV (ns.map V.int) none (some 63))
      (fun i σ H' => ∃ (z : Int) (y : Option V), σ = [some (.ref a), some (.int z), y] ∧ 0 ≤ z ∧ z < 2147483549 ∧ H' = upd H p (.lst (cutV (ns.map V.int) none (some 63)))) ⟨3808, none, rfl, by decide, by decide, rfl⟩
      (fun i σ H' _ ⟨_, _, _, _, _, e⟩ => by rw [e]; exact .inl (.inl upd_same)) ?_ ?_⟩
    · rintro i y σ H' hi ⟨z, y0, rfl, h0, h1, rfl⟩
      obtain ⟨u, rfl⟩ := cut_int hi
      refine ⟨_, rfl, _, _, rfl, rfl, .inl ⟨by omega, by omega⟩, _, rfl, _, _, rfl, rfl, (by dsimp only; decide), _, _, rfl, rfl, _, _, rfl, rfl, _, _, rfl, rfl, (by dsimp only; decide), ?_⟩
      refine ⟨_, _, rfl, Int.emod_nonneg _ (by decide), Int.emod_lt_of_pos _ (by decide), rfl⟩
    · rintro σ H' ⟨z, y0, rfl, h0, h1, rfl⟩
      refine ⟨.ref a, rfl, 63, rfl, a, ns.map V.int, rfl, s1.seq hS, fun p2 np2 => ?_⟩
      refine ⟨p2, _, rfl, .inl (.inl (.inl upd_same)), fun l nl => ?_⟩
      refine ⟨.int z, rfl, (by show 4 ≤ sizeLine; decide), fun b nb => ?_⟩
      have e2 := (same_upd (o := .lst (cutV (ns.map V.int) none (some 63))) np2)
      have e3 := (same_upd (o := .lst (cutV (ns.map V.int) none (some 63))) nl)
      have e4 := (same_upd (o := .lst [.ref l, .int 0, .int 0, .int z]) nb)
      have f4 := ((s1.trans e2).trans e3).free nb
      have f3 := (s1.trans e2).free nl
      obtain ⟨ms, em⟩ := cut_ints ns none (some 63)
      refine q _ b l (((s1.trans e2).trans e3).trans e4) f4 f3 ⟨ms, 0, 0, z, upd_same, ?_, by decide, by decide, h0, h1⟩
      rw [← em]
      exact e4 _ _ upd_same

theorem ok_pull {f : Addr} {fd : FuncData} (F : Fun K "_law_pull" "_law_pull" sPull f fd) (ml : mg "len" = none) : FnOk P w K mg base CX0 1 f fd ["_law_bag_here", "_law_many"] spPull := by
  refine F.ok scPull (fun vs H Q E h => ?_) (fun cdv A outer s H vs Q E hr h => ?_)
  · obtain ⟨b, l, m, rfl, _⟩ := h
    rfl
  · obtain ⟨b, l, m, rfl, B, hm0, hm1, q⟩ := h
    refine ⟨_, pss_cons (ps_if (PW.pt (pw_and (pt_cmpR op_lt (pe_ix ix_list (pv 0) pe_int (fun _ _ => rfl)) (pv 1) (nomark _)) (pw_and1 (pt_cmpR op_lt (pe_ix ix_list (pv 0) pe_int (fun _ _ => rfl)) (pe_callB call_len_seq (by rfl) ml PySem.boot_len (pa_cons (pe_ix ix_list (pv 0) pe_int (fun _ _ => rfl)) pa_nil)) (nomark _)))))
        (pss_cons (ps_set (i := 2) scPull.nd rfl (.inl rfl) (pe_ix ix_list (pe_ix ix_list (pv 0) pe_int (fun _ _ => rfl)) (pe_ix ix_list (pv 0) pe_int (fun _ _ => rfl)) (fun _ _ => rfl)))
        (pss_cons (ps_asg (pe_op op_add (pe_ix ix_list (pv 0) pe_int (fun _ _ => rfl)) pe_int) (pg_sub (pv 0) pe_int set_list))
        (pss_cons (ps_asg pe_int (pg_sub (pv 0) pe_int set_list))
        (pss_one (ps_if (pt_cmpR op_ge (pv 2) (pe_op op_pow pe_int pe_int) (nomark _)) (pss_one (ps_asg (pv 2) (pg_sub (pv 0) pe_int set_list)))
          (pss_one (ps_asg (pe_op op_mod (pe_op op_add (pe_op op_add (pe_op op_mul (pe_ix ix_list (pv 0) pe_int (fun _ _ => rfl)) pe_int) (pe_op op_mul (pe_op op_mod (pv 2) pe_int) pe_int)) pe_int) pe_int) (pg_sub (pv 0) pe_int set_list))))))))
        pss_nil)
      (pss_cons (ps_if (pt_cmpR op_ge (pe_ix ix_list (pv 0) pe_int (fun _ _ => rfl)) (pv 1) (nomark _))
        (pss_cons (ps_set (i := 3) scPull.nd rfl (.inl rfl) (pe_op op_mod (pe_ix ix_list (pv 0) pe_int (fun _ _ => rfl)) (pv 1)))
        (pss_cons (ps_asg (pe_op op_fdiv (pe_ix ix_list (pv 0) pe_int (fun _ _ => rfl)) (pv 1)) (pg_sub (pv 0) pe_int set_list))
        (pss_one (ps_ret (pv 3))))) pss_nil)
      (pss_cons (ps_set (i := 4) scPull.nd rfl (.inl rfl) (pe_op op_mod (pe_op op_mul (pe_ix ix_list (pv 0) pe_int (fun _ _ => rfl)) (pe_ix ix_list (pv 0) pe_int (fun _ _ => rfl))) pe_int))
      (pss_cons (ps_asg (pe_op op_mod (pe_op op_add (pe_op op_add (pe_op op_mul (pv 4) pe_int) (pe_op op_mul (pe_ix ix_list (pv 0) pe_int (fun _ _ => rfl)) pe_int)) pe_int) pe_int) (pg_sub (pv 0) pe_int set_list))
      (pss_one (ps_ret (pe_op op_mod (pe_op op_add (pe_op op_fdiv (pe_ix ix_list (pv 0) pe_int (fun _ _ => rfl)) pe_int) (pe_op op_mul (pe_op op_mod (pe_ix ix_list (pv 0) pe_int (fun _ _ => rfl)) pe_int) pe_int)) (pv 1))))))), ?_⟩
    refine cut (fun σ' H' => ∃ y, σ' = [some (.ref b), some (.int m), y, none, none] ∧ Bag H' b l ∧ Kp b H H') (fun σ1 H1 hp => ?tail) (fun N hN => ?head)
    case head =>
      obtain ⟨xs, i, n, z, hb, hl, i0, n0, z0, z1⟩ := id B
      have nlb := bag_ne hb hl
      refine ⟨_, rfl, b, _, 2, .int n, rfl, rfl, SqL.of hb, rfl, _, rfl, _, _, rfl, rfl, _, rfl, ite2 (fun hlt => ?_) (fun _ => ?_)⟩
      · refine ⟨_, rfl, b, _, 1, .int i, rfl, rfl, SqL.of hb, rfl, _, rfl, b, _, 0, .ref l, rfl, rfl, SqL.of hb, rfl, l, _, rfl, .inl (SqL.of hl), _, _, rfl, rfl, _, rfl, ite2 (fun hlt2 => ?_) (fun _ => ?_)⟩
        · have hi : i < ((xs.map V.int).length : Int) := of_decide_eq_true hlt2
          rw [List.length_map] at hi
          obtain ⟨j, rfl⟩ : ∃ j : Nat, i = j := ⟨i.toNat, by omega⟩
          have hj : j < xs.length := by omega
          have gj : (xs.map V.int)[j]? = some (.int xs[j]) := by
            rw [List.getElem?_map, List.getElem?_eq_getElem hj]; rfl
          generalize xs[j] = c at gj
          refine ⟨_, rfl, b, _, 0, .ref l, rfl, rfl, SqL.of hb, rfl, _, rfl, b, _, 1, .int j, rfl, rfl, SqL.of hb, rfl, l, _, j, .int c, rfl, rfl, SqL.of hl, atI_nat gj, ?_⟩
          refine ⟨_, rfl, b, _, 1, .int j, rfl, rfl, SqL.of hb, rfl, _, _, rfl, rfl, _, rfl, b, _, 1, 1, rfl, rfl, hb, rfl, ?_⟩
          refine ⟨_, rfl, b, _, 2, 2, rfl, rfl, upd_same, rfl, ?_⟩
          rw [upd_upd]
          refine ⟨_, rfl, _, _, rfl, rfl, ⟨by decide, by decide, by decide⟩, _, _, rfl, rfl, _, rfl, ite2 (fun hge => ?_) (fun _ => ?_)⟩
          · refine ⟨_, rfl, _, rfl, b, _, 2, 2, rfl, rfl, upd_same, rfl, ?_⟩
            rw [upd_upd]
            refine hN _ _ ⟨_, rfl, ⟨xs, _, _, _, upd_same, by rw [upd_ne nlb]; exact hl, by omega, ?_, z0, z1⟩, Kp.set⟩
            have e := of_decide_eq_true hge
            have e2 : (0 : Int) ≤ 10 ^ (18 : Int).toNat := by decide
            omega
          · refine ⟨_, rfl, b, _, 3, .int z, rfl, rfl, SqL.of upd_same, rfl, _, _, rfl, rfl, .inl ⟨by omega, by omega⟩, _, rfl, _, _, rfl, rfl, (by dsimp only; decide), _, _, rfl, rfl, .inr ⟨by decide, by decide⟩, _, _, rfl, rfl, _, _, rfl, rfl, _, _, rfl, rfl, (by dsimp only; decide), _, rfl, b, _, 3, 3, rfl, rfl, upd_same, rfl, ?_⟩
            rw [upd_upd]
            exact hN _ _ ⟨_, rfl, ⟨xs, _, _, _, upd_same, by rw [upd_ne nlb]; exact hl, by omega, by decide, Int.emod_nonneg _ (by decide), Int.emod_lt_of_pos _ (by decide)⟩, Kp.set⟩
        · exact hN _ _ ⟨_, rfl, B, Kp.refl _ _⟩
      · exact hN _ _ ⟨_, rfl, B, Kp.refl _ _⟩
    case tail =>
      obtain ⟨y, rfl, ⟨xs, i, n, z, hb, hl, i0, n0, z0, z1⟩, kp⟩ := hp
      have nlb := bag_ne hb hl
      refine ⟨_, rfl, b, _, 2, .int n, rfl, rfl, SqL.of hb, rfl, _, rfl, _, _, rfl, rfl, _, rfl, ite2 (fun hge => ?_) (fun _ => ?_)⟩
      · refine ⟨_, rfl, b, _, 2, .int n, rfl, rfl, SqL.of hb, rfl, _, rfl, _, _, rfl, rfl, hm0, ?_⟩
        refine ⟨_, rfl, b, _, 2, .int n, rfl, rfl, SqL.of hb, rfl, _, rfl, _, _, rfl, rfl, ⟨hm0, hm1⟩, _, rfl, b, _, 2, 2, rfl, rfl, hb, rfl, ?_⟩
        refine ⟨_, rfl, ?_⟩
        exact q _ _ (kp.trans Kp.set) ⟨xs, _, _, _, upd_same, by rw [upd_ne nlb]; exact hl, i0, Int.ediv_nonneg n0 (by omega), z0, z1⟩ (Int.emod_nonneg _ (by omega)) (Int.emod_lt_of_pos _ hm0)
      · refine ⟨_, rfl, b, _, 3, .int z, rfl, rfl, SqL.of hb, rfl, _, rfl, b, _, 3, .int z, rfl, rfl, SqL.of hb, rfl, _, _, rfl, rfl, .inl ⟨by omega, by omega⟩, _, _, rfl, rfl, (by dsimp only; decide), ?_⟩
        have w0 : 0 ≤ z * z % 2147483549 := Int.emod_nonneg _ (by decide)
        have w1 : z * z % 2147483549 < 2147483549 := Int.emod_lt_of_pos _ (by decide)
        refine ⟨_, rfl, _, _, rfl, rfl, .inl ⟨by omega, by omega⟩, _, rfl, b, _, 3, .int z, rfl, rfl, SqL.of hb, rfl, _, _, rfl, rfl, .inl ⟨by omega, by omega⟩, _, _, rfl, rfl, _, _, rfl, rfl, _, _, rfl, rfl, (by dsimp only; decide), _, rfl, b, _, 3, 3, rfl, rfl, hb, rfl, ?_⟩
        refine ⟨_, rfl, b, _, 3, _, rfl, rfl, SqL.of upd_same, rfl, _, _, rfl, rfl, ⟨by decide, by decide⟩, _, rfl, b, _, 3, _, rfl, rfl, SqL.of upd_same, rfl, _, _, rfl, rfl, (by dsimp only; decide), _, _, rfl, rfl, .inr ⟨by decide, by decide⟩, _, _, rfl, rfl, _, rfl, _, _, rfl, rfl, hm0, ?_⟩
        exact q _ _ (kp.trans Kp.set) ⟨xs, _, _, _, upd_same, by rw [upd_ne nlb]; exact hl, i0, n0, Int.emod_nonneg _ (by decide), Int.emod_lt_of_pos _ (by decide)⟩ (Int.emod_nonneg _ (by omega)) (Int.emod_lt_of_pos _ hm0)
end

abbrev sMixed : Stmt := topS 22
theorem scMixed : FnScope ["_law_bag_here", "_law_things", "_law_left", "_law_found", "_law_turn"] ["_law_bag_here", "_law_things"] (defScope sMixed) := ⟨rfl, rfl, rfl, by decide +kernel, rfl, by decide +kernel, by decide +kernel⟩
section
variable {P : Program} {w : World} {K : PySem.W.Frag} {mg : Str → Option Value} {base : Heap}
theorem ok_of {f fP : Addr} {fd fdP : FuncData} (F : Fun K "_law_of" "_law_of" sOf f fd) (FP : Fun K "_law_pull" "_law_pull" sPull fP fdP) (bP : Binds K fdP ["_law_bag_here", "_law_many"] []) (gP : mg "_law_pull" = some (.ref fP)) (ml : mg "len" = none) : FnOk P w K mg base CX0 2 f fd ["_law_bag_here", "_law_things"] (spOf K) := by
  have GP : FnOk P w K mg base CX0 1 fP fdP ["_law_bag_here", "_law_many"] spPull := ok_pull FP ml
  refine F.ok scOf (fun vs H Q E h => ?_) (fun cdv A outer s H vs Q E hr h => ?_)
  · obtain ⟨b, l, t, xs, rfl, _⟩ := h
    rfl
  · obtain ⟨b, l, t, xs, rfl, B, hT, h0, h1, q⟩ := h
    refine ⟨_, pss_one (ps_ret (pe_ix ix_seq (pv 1) (pe_call GP hr (by rfl) gP FP.kp bP .nil pass0 (pa_cons (pv 0) (pa_cons (pe_callB call_len (by rfl) ml PySem.boot_len (pa_cons (pv 1) pa_nil)) pa_nil))) (fun _ _ => rfl))), ?_⟩
    rcases hT with ⟨a, rfl, nab, hS⟩ | ⟨z, rfl, hz, rfl⟩
    · refine ⟨_, rfl, _, rfl, _, rfl, _, _, rfl, .inl ⟨_, hS, rfl⟩, b, l, _, rfl, B, by omega, by omega, fun H' d kp B' d0 d1 => ?_⟩
      obtain ⟨j, rfl⟩ : ∃ j : Nat, d = j := ⟨d.toNat, by omega⟩
      have hj : j < xs.length := by omega
      exact .inl ⟨a, xs, _, xs[j], rfl, rfl, kp.seq nab hS, atI_nat (List.getElem?_eq_getElem hj), q _ _ kp B' (List.getElem_mem hj)⟩
    · rw [List.length_map, Array.length_toList] at h0 h1
      refine ⟨_, rfl, _, rfl, _, rfl, _, _, rfl, ⟨hz, rfl⟩, b, l, _, rfl, B, ?_, ?_, fun H' d kp B' d0 d1 => ?_⟩
      · show (0 : Int) < ((z.cps.size : Nat) : Int)
        omega
      · show ((z.cps.size : Nat) : Int) < 1073741824
        omega
      · have d2 : d < ((z.cps.size : Nat) : Int) := d1
        obtain ⟨j, rfl⟩ : ∃ j : Nat, d = j := ⟨d.toNat, by omega⟩
        have hj : j < z.cps.toList.length := by rw [Array.length_toList]; omega
        refine .inr (.inr ⟨z, _, z.cps.toList[j], rfl, rfl, hz, atI_nat (List.getElem?_eq_getElem hj), q _ _ kp B' ?_⟩)
        exact List.mem_map.mpr ⟨_, List.getElem_mem hj, rfl⟩
theorem ok_mixed {f fP : Addr} {fd fdP : FuncData} (F : Fun K "_law_mixed" "_law_mixed" sMixed f fd) (FP : Fun K "_law_pull" "_law_pull" sPull fP fdP) (bP : Binds K fdP ["_law_bag_here", "_law_many"] []) (gP : mg "_law_pull" = some (.ref fP)) (ml : mg "len" = none)
    (mli : mg "list" = none) (mr : mg "range" = none) : FnOk P w K mg base CX0 2 f fd ["_law_bag_here", "_law_things"] (spMixed K) := by
  have GP : FnOk P w K mg base CX0 1 fP fdP ["_law_bag_here", "_law_many"] spPull := ok_pull FP ml
  refine F.ok scMixed (fun vs H Q E h => ?_) (fun cdv A outer s H vs Q E hr h => ?_)
  · obtain ⟨b, l, a, xs, rfl, _⟩ := h
    rfl
  · obtain ⟨b, l, a, xs, rfl, B, nab, hS, hlen, q⟩ := h
    refine ⟨_, pss_cons (ps_par (i := 2) (j := 3) (by rfl) scMixed.nd rfl rfl (by decide) rfl rfl (pa_cons (pe_callTy call_list_of (by rfl) mli boot_list (pa_cons (pv 1) pa_nil)) (pa_cons (pe_lst pa_nil) pa_nil)) (by rfl))
      (pss_cons (ps_for PassesOwn.never rfl (pi_range1 (by rfl) mr (pa_cons (pe_callB call_len_seq (by rfl) ml PySem.boot_len (pa_cons (pv 1) pa_nil)) pa_nil)) (pg_name (i := 4) scMixed.nd rfl (.inl rfl))
        (pss_one (ps_expr (pe_bm PySem.F.plainAttrs_list PySem.F.slot_list_append PySem.F.type_list_append mt_append (pv 3) (pa_cons (pe_bm PySem.F.plainAttrs_list PySem.F.slot_list_pop PySem.F.type_list_pop mt_popAt (pv 2)
          (pa_cons (pe_call GP hr (by rfl) gP FP.kp bP .nil pass0 (pa_cons (pv 0) (pa_cons (pe_callB call_len_seq (by rfl) ml PySem.boot_len (pa_cons (pv 2) pa_nil)) pa_nil))) pa_nil)) pa_nil)))))
      (pss_one (ps_ret (pv 3)))), ?_⟩
    refine ⟨_, rfl, a, xs, rfl, .inl hS, fun p np => ⟨Nat.zero_le _, fun o no => ⟨_, _, rfl, ?_⟩⟩⟩
    have npo : p ≠ o := fun e => by rw [e] at no; rw [← e, upd_same] at no; cases no
    have no0 : H o = none := by rw [upd_ne npo.symm] at no; exact no
    have k2 : Kp b H (upd (upd H p (.lst xs)) o (.lst [])) := (Kp.new np).put no0
    have B2 : Bag (upd (upd H p (.lst xs)) o (.lst [])) b l := (B.new np).put (B.nb no0) (B.nl no0)
    have ea : (((xs.length : Nat) : Int)).toNat = xs.length := by omega
    refine ⟨_, rfl, a, xs, rfl, .inl (k2.seq nab hS), _, rfl, by omega, by omega, ?_⟩
    rw [ea]
    refine for_range (lo := 0) (n := xs.length) (fun i σ H' => ∃ (ys zs : List V) (y : Option V), σ = [some (.ref b), some (.ref a), some (.ref p), some (.ref o), y] ∧ Kp b H H' ∧ Bag H' b l ∧ H' p = some (.lst zs) ∧ H' o = some (.lst ys) ∧ (ys ++ zs).Perm xs ∧ ys.length = i)
      ⟨[], xs, none, rfl, k2, B2, by rw [upd_ne npo, upd_same], upd_same, .refl _, rfl⟩ ?_ ?_
    · rintro i σ H' hi ⟨ys, zs, y, rfl, kp, B', hp, ho, pm, hy⟩
      have hzl : ys.length + zs.length = xs.length := by
        have e := pm.length_eq
        rw [List.length_append] at e
        exact e
      refine ⟨_, rfl, .inl ⟨rfl, _, SqL.of ho⟩, _, rfl, .inl ⟨rfl, _, SqL.of hp⟩, _, rfl, _, rfl, p, zs, rfl, .inl (SqL.of hp), b, l, _, rfl, B', by omega, by omega, fun H1 d kp1 B1 d0 d1 => ?_⟩
      obtain ⟨j, rfl⟩ : ∃ j : Nat, d = j := ⟨d.toNat, by omega⟩
      have hj : j < zs.length := by omega
      have hp1 : H1 p = some (.lst zs) := kp1 _ _ (B.nb np) hp
      have ho1 : H1 o = some (.lst ys) := kp1 _ _ (B.nb no0) ho
      refine ⟨p, zs, _, j, zs[j], rfl, rfl, hp1, by omega, by omega, ?_, List.getElem?_eq_getElem hj, ?_⟩
      · exact (ixN_seq (n := zs.length) (i := (j : Int)) (j := j) (by unfold ixN; rw [if_pos (by omega), if_pos (by omega)]; rfl)).1
      · refine ⟨o, _, _, rfl, rfl, by rw [upd_ne npo.symm]; exact ho1, small1000 (by omega), ?_⟩
        refine ⟨ys ++ [zs[j]], zs.eraseIdx j, _, rfl, ((kp.trans kp1).put np).put no0, (B1.put (B.nb np) (B.nl np)).put (B.nb no0) (B.nl no0), ?_, upd_same, ?_, ?_⟩
        · rw [upd_ne npo, upd_same]
        · refine List.Perm.trans ?_ pm
          rw [List.append_assoc]
          exact List.Perm.append_left _ (erasePm zs j hj)
        · rw [List.length_append, hy]; rfl
    · rintro σ H' ⟨ys, zs, y, rfl, kp, B', hp, ho, pm, hy⟩
      have e0 : zs = [] := by
        have e := pm.length_eq
        rw [List.length_append] at e
        exact List.eq_nil_of_length_eq_zero (by omega)
      subst e0
      rw [List.append_nil] at pm
      exact ⟨_, rfl, q _ o ys kp B' no0 ho pm⟩
end

abbrev sSame : Stmt := topS 23
theorem scSame : FnScope ["_law_found", "_law_due", "_law_one", "_law_other"] ["_law_found", "_law_due"] (defScope sSame) := ⟨rfl, rfl, rfl, by decide +kernel, rfl, by decide +kernel, by decide +kernel⟩
structure SameT (mg : Str → Option Value) : Prop where
  isi : mg "isinstance" = none
  dict : mg "dict" = none
  list : mg "list" = none
  tuple : mg "tuple" = none
  bool : mg "bool" = none
  int : mg "int" = none
  str : mg "str" = none
  len : mg "len" = none
  all : mg "all" = none
  zip : mg "zip" = none
section
variable {P : Program} {w : World} {K : PySem.W.Frag} {mg : Str → Option Value} {base : Heap}
theorem ok_same0 {f : Addr} {fd : FuncData} (F : Fun K "_law_same" "_law_same" sSame f fd) (T : SameT mg) : FnOk P w K mg base CX0 (0 + 1) f fd ["_law_found", "_law_due"] (spSame (0)) := by
  refine F.ok scSame (fun vs H Q E h => ?_) (fun cdv A outer s H vs Q E hr h => ?_)
  · obtain ⟨x, y, rfl, _⟩ := h
    rfl
  · obtain ⟨x, y, rfl, he, q⟩ := h
    refine ⟨_, pss_cons (ps_if (PW.pt (pw_or (pt_cmpR op_isN (pv 1) pe_non (nomark _)) (pw_or1 (pt_cmpR op_isN (pv 0) pe_non (nomark _))))) (pss_one (ps_ret (pe_and (pe_cmpR op_isN (pv 0) pe_non (nomark _)) (pe_one (pe_cmpR op_isN (pv 1) pe_non (nomark _)))))) pss_nil)
      (pss_cons (ps_if (pt_val (pe_callB call_isi (by rfl) T.isi boot_isinstance (pa_cons (pv 1) (pa_cons (pe_bltn (v := .ty "dict") (by rfl) T.dict (by decide +kernel) rfl) pa_nil)))) pss_never pss_nil)
      (pss_cons (ps_if (pt_val (pe_callB call_isiT (by rfl) T.isi boot_isinstance (pa_cons (pv 1) (pa_cons (pe_tup (pa_cons (pe_bltn (v := .ty "list") (by rfl) T.list (by decide +kernel) rfl) (pa_cons (pe_bltn (v := .ty "tuple") (by rfl) T.tuple (by decide +kernel) rfl) pa_nil))) pa_nil)))) pss_never pss_nil)
      (pss_cons (ps_if (PW.pt (pw_or (pt_cmpR op_ne (pe_callB call_isi (by rfl) T.isi boot_isinstance (pa_cons (pv 0) (pa_cons (pe_bltn (v := .ty "bool") (by rfl) T.bool (by decide +kernel) rfl) pa_nil))) (pe_callB call_isi (by rfl) T.isi boot_isinstance (pa_cons (pv 1) (pa_cons (pe_bltn (v := .ty "bool") (by rfl) T.bool (by decide +kernel) rfl) pa_nil))) (nomark _))
          (pw_or1 (pt_cmpR op_ne (pe_callB call_isi (by rfl) T.isi boot_isinstance (pa_cons (pv 0) (pa_cons (pe_bltn (v := .ty "int") (by rfl) T.int (by decide +kernel) rfl) pa_nil))) (pe_callB call_isi (by rfl) T.isi boot_isinstance (pa_cons (pv 1) (pa_cons (pe_bltn (v := .ty "int") (by rfl) T.int (by decide +kernel) rfl) pa_nil))) (nomark _))))) pss_never pss_nil)
      (pss_one (ps_ret (pe_and (pe_cmpR op_eq (pe_callB call_isi (by rfl) T.isi boot_isinstance (pa_cons (pv 0) (pa_cons (pe_bltn (v := .ty "str") (by rfl) T.str (by decide +kernel) rfl) pa_nil))) (pe_callB call_isi (by rfl) T.isi boot_isinstance (pa_cons (pv 1) (pa_cons (pe_bltn (v := .ty "str") (by rfl) T.str (by decide +kernel) rfl) pa_nil))) (nomark _)) (pe_one (pe_cmpR op_eq (pv 0) (pv 1) (nomark _))))))))), ?_⟩
    rcases he with _ | ⟨_, bb⟩ | ⟨_, i⟩ | ⟨_, z⟩
    · refine ⟨_, rfl, rfl, _, rfl, iteT ⟨_, rfl, rfl, _, rfl, ifT rfl ⟨_, rfl, rfl, ?_⟩⟩⟩
      exact q _ (Same.refl _)
    · refine ⟨_, rfl, rfl, _, rfl, ifF (decide_eq_false (by intro e; cases e)) ⟨_, rfl, rfl, _, rfl, ifF (decide_eq_false (by intro e; cases e)) ?_⟩⟩
      refine ⟨_, rfl, _, _, _, _, false, rfl, .ty "dict", .base (.bl bb), kit_ty (by decide +kernel), _, rfl, iteF ?_⟩
      refine ⟨_, rfl, (by show 2 ≤ sizeLine; decide), fun t ht => ⟨_, t, _, _, [.type "list", .type "tuple"], false, rfl, upd_same, .cons (.ty _) (.cons (.ty _) .nil), .base (.bl bb), kit_list (by decide +kernel) (fun _ => by decide +kernel), _, rfl, iteF ?_⟩⟩
      refine ⟨_, rfl, _, _, _, _, true, rfl, .ty "bool", .base (.bl bb), kit_ty (by decide +kernel), _, rfl, _, _, _, _, true, rfl, .ty "bool", .base (.bl bb), kit_ty (by decide +kernel), rfl, _, rfl, ifF (by decide) ⟨_, rfl, _, _, _, _, true, rfl, .ty "int", .base (.bl bb), kit_ty (by decide +kernel), _, rfl, _, _, _, _, true, rfl, .ty "int", .base (.bl bb), kit_ty (by decide +kernel), rfl, _, rfl, ifF (by decide) ?_⟩⟩
      refine ⟨_, rfl, _, _, _, _, false, rfl, .ty "str", .base (.bl bb), kit_ty (by decide +kernel), _, rfl, _, _, _, _, false, rfl, .ty "str", .base (.bl bb), kit_ty (by decide +kernel), rfl, _, rfl, ifT (by decide) ⟨_, rfl, _, rfl, rfl, ?_⟩⟩
      rw [decide_eq_true rfl]
      exact q _ (same_upd ht)
    · refine ⟨_, rfl, rfl, _, rfl, ifF (decide_eq_false (by intro e; cases e)) ⟨_, rfl, rfl, _, rfl, ifF (decide_eq_false (by intro e; cases e)) ?_⟩⟩
      refine ⟨_, rfl, _, _, _, _, false, rfl, .ty "dict", .base (.int i), kit_ty (by decide +kernel), _, rfl, iteF ?_⟩
      refine ⟨_, rfl, (by show 2 ≤ sizeLine; decide), fun t ht => ⟨_, t, _, _, [.type "list", .type "tuple"], false, rfl, upd_same, .cons (.ty _) (.cons (.ty _) .nil), .base (.int i), kit_list (by decide +kernel) (fun _ => by decide +kernel), _, rfl, iteF ?_⟩⟩
      refine ⟨_, rfl, _, _, _, _, false, rfl, .ty "bool", .base (.int i), kit_ty (by decide +kernel), _, rfl, _, _, _, _, false, rfl, .ty "bool", .base (.int i), kit_ty (by decide +kernel), rfl, _, rfl, ifF (by decide) ⟨_, rfl, _, _, _, _, true, rfl, .ty "int", .base (.int i), kit_ty (by decide +kernel), _, rfl, _, _, _, _, true, rfl, .ty "int", .base (.int i), kit_ty (by decide +kernel), rfl, _, rfl, ifF (by decide) ?_⟩⟩
      refine ⟨_, rfl, _, _, _, _, false, rfl, .ty "str", .base (.int i), kit_ty (by decide +kernel), _, rfl, _, _, _, _, false, rfl, .ty "str", .base (.int i), kit_ty (by decide +kernel), rfl, _, rfl, ifT (by decide) ⟨_, rfl, _, rfl, rfl, ?_⟩⟩
      rw [decide_eq_true rfl]
      exact q _ (same_upd ht)
    · refine ⟨_, rfl, rfl, _, rfl, ifF (decide_eq_false (by intro e; cases e)) ⟨_, rfl, rfl, _, rfl, ifF (decide_eq_false (by intro e; cases e)) ?_⟩⟩
      refine ⟨_, rfl, _, _, _, _, false, rfl, .ty "dict", .base (.str z), kit_ty (by decide +kernel), _, rfl, iteF ?_⟩
      refine ⟨_, rfl, (by show 2 ≤ sizeLine; decide), fun t ht => ⟨_, t, _, _, [.type "list", .type "tuple"], false, rfl, upd_same, .cons (.ty _) (.cons (.ty _) .nil), .base (.str z), kit_list (by decide +kernel) (fun _ => by decide +kernel), _, rfl, iteF ?_⟩⟩
      refine ⟨_, rfl, _, _, _, _, false, rfl, .ty "bool", .base (.str z), kit_ty (by decide +kernel), _, rfl, _, _, _, _, false, rfl, .ty "bool", .base (.str z), kit_ty (by decide +kernel), rfl, _, rfl, ifF (by decide) ⟨_, rfl, _, _, _, _, false, rfl, .ty "int", .base (.str z), kit_ty (by decide +kernel), _, rfl, _, _, _, _, false, rfl, .ty "int", .base (.str z), kit_ty (by decide +kernel), rfl, _, rfl, ifF (by decide) ?_⟩⟩
      refine ⟨_, rfl, _, _, _, _, true, rfl, .ty "str", .base (.str z), kit_ty (by decide +kernel), _, rfl, _, _, _, _, true, rfl, .ty "str", .base (.str z), kit_ty (by decide +kernel), rfl, _, rfl, ifT (by decide) ⟨_, rfl, _, rfl, rfl, ?_⟩⟩
      rw [decide_eq_true rfl]
      exact q _ (same_upd ht)
theorem ok_sameS {f : Addr} {fd : FuncData} {n : Nat} (G : FnOk P w K mg base CX0 (n + 1) f fd ["_law_found", "_law_due"] (spSame n)) (gS : mg "_law_same" = some (.ref f)) (bS : Binds K fd ["_law_found", "_law_due"] []) (F : Fun K "_law_same" "_law_same" sSame f fd) (T : SameT mg) : FnOk P w K mg base CX0 (n + 1 + 1) f fd ["_law_found", "_law_due"] (spSame (n + 1)) := by
  refine F.ok scSame (fun vs H Q E h => ?_) (fun cdv A outer s H vs Q E hr h => ?_)
  · obtain ⟨x, y, rfl, _⟩ := h
    rfl
  · obtain ⟨x, y, rfl, he, q⟩ := h
    refine ⟨_, pss_cons (ps_if (PW.pt (pw_or (pt_cmpR op_isN (pv 1) pe_non (nomark _)) (pw_or1 (pt_cmpR op_isN (pv 0) pe_non (nomark _))))) (pss_one (ps_ret (pe_and (pe_cmpR op_isN (pv 0) pe_non (nomark _)) (pe_one (pe_cmpR op_isN (pv 1) pe_non (nomark _)))))) pss_nil)
      (pss_cons (ps_if (pt_val (pe_callB call_isi (by rfl) T.isi boot_isinstance (pa_cons (pv 1) (pa_cons (pe_bltn (v := .ty "dict") (by rfl) T.dict (by decide +kernel) rfl) pa_nil)))) pss_never pss_nil)
      (pss_cons (ps_if (pt_val (pe_callB call_isiT (by rfl) T.isi boot_isinstance (pa_cons (pv 1) (pa_cons (pe_tup (pa_cons (pe_bltn (v := .ty "list") (by rfl) T.list (by decide +kernel) rfl) (pa_cons (pe_bltn (v := .ty "tuple") (by rfl) T.tuple (by decide +kernel) rfl) pa_nil))) pa_nil)))) (pss_cons (ps_if (PW.pt (pw_or (pt_cmpR op_ne (pe_callB call_isi (by rfl) T.isi boot_isinstance (pa_cons (pv 0) (pa_cons (pe_bltn (v := .ty "list") (by rfl) T.list (by decide +kernel) rfl) pa_nil))) (pe_callB call_isi (by rfl) T.isi boot_isinstance (pa_cons (pv 1) (pa_cons (pe_bltn (v := .ty "list") (by rfl) T.list (by decide +kernel) rfl) pa_nil))) (nomark _)) (pw_or1 (pt_cmpR op_ne (pe_callB call_isi (by rfl) T.isi boot_isinstance (pa_cons (pv 0) (pa_cons (pe_bltn (v := .ty "tuple") (by rfl) T.tuple (by decide +kernel) rfl) pa_nil))) (pe_callB call_isi (by rfl) T.isi boot_isinstance (pa_cons (pv 1) (pa_cons (pe_bltn (v := .ty "tuple") (by rfl) T.tuple (by decide +kernel) rfl) pa_nil))) (nomark _))))) pss_never pss_nil)
        (pss_one (ps_ret (pe_and (pe_cmpR op_eq (pe_callB call_len_seq (by rfl) T.len PySem.boot_len (pa_cons (pv 0) pa_nil)) (pe_callB call_len_seq (by rfl) T.len PySem.boot_len (pa_cons (pv 1) pa_nil)) (nomark _))
          (pe_one (pe_callB (cr_all rfl) (by rfl) T.all boot_all (pa_cons (pe_lc (own := [("_law_one", 2), ("_law_other", 3)]) (g := gTup K 2 (gCons (gName 2) (gCons (gName 3) gNil))) (tt := tYes) rfl scSame.nd (RZ.pi_zipA (by rfl) T.zip (pa_cons (pv 0) (pa_cons (pv 1) pa_nil)))
            (blkOk_by (own := [("_law_one", 2), ("_law_other", 3)]) (N := ["_law_found", "_law_due", "_law_one", "_law_other"]) (sc := defScope sSame) (by decide +kernel))
            (fun _ _ _ _ _ => pg_tup rfl (pgs_cons (pg_name (i := 2) scSame.nd rfl (Or.inl rfl)) (pgs_cons (pg_name (i := 3) scSame.nd rfl (Or.inl rfl)) pgs_nil))) (fun _ _ _ _ _ => pts_nil)
            (fun _ _ _ _ _ => pe_call G hr (by rfl) gS F.kp bS .nil pass0 (pa_cons (pv 2) (pa_cons (pv 3) pa_nil)))) pa_nil))))))) pss_nil)
      (pss_cons (ps_if (PW.pt (pw_or (pt_cmpR op_ne (pe_callB call_isi (by rfl) T.isi boot_isinstance (pa_cons (pv 0) (pa_cons (pe_bltn (v := .ty "bool") (by rfl) T.bool (by decide +kernel) rfl) pa_nil))) (pe_callB call_isi (by rfl) T.isi boot_isinstance (pa_cons (pv 1) (pa_cons (pe_bltn (v := .ty "bool") (by rfl) T.bool (by decide +kernel) rfl) pa_nil))) (nomark _))
          (pw_or1 (pt_cmpR op_ne (pe_callB call_isi (by rfl) T.isi boot_isinstance (pa_cons (pv 0) (pa_cons (pe_bltn (v := .ty "int") (by rfl) T.int (by decide +kernel) rfl) pa_nil))) (pe_callB call_isi (by rfl) T.isi boot_isinstance (pa_cons (pv 1) (pa_cons (pe_bltn (v := .ty "int") (by rfl) T.int (by decide +kernel) rfl) pa_nil))) (nomark _))))) pss_never pss_nil)
      (pss_one (ps_ret (pe_and (pe_cmpR op_eq (pe_callB call_isi (by rfl) T.isi boot_isinstance (pa_cons (pv 0) (pa_cons (pe_bltn (v := .ty "str") (by rfl) T.str (by decide +kernel) rfl) pa_nil))) (pe_callB call_isi (by rfl) T.isi boot_isinstance (pa_cons (pv 1) (pa_cons (pe_bltn (v := .ty "str") (by rfl) T.str (by decide +kernel) rfl) pa_nil))) (nomark _)) (pe_one (pe_cmpR op_eq (pv 0) (pv 1) (nomark _))))))))), ?_⟩
    rcases he with _ | ⟨_, bb⟩ | ⟨_, i⟩ | ⟨_, z⟩ | ⟨hp, hq, hl, hz, hh⟩ | ⟨hp, hq, hl, hz, hh⟩
    · refine ⟨_, rfl, rfl, _, rfl, iteT ⟨_, rfl, rfl, _, rfl, ifT rfl ⟨_, rfl, rfl, ?_⟩⟩⟩
      exact q _ (Same.refl _)
    · refine ⟨_, rfl, rfl, _, rfl, ifF (decide_eq_false (by intro e; cases e)) ⟨_, rfl, rfl, _, rfl, ifF (decide_eq_false (by intro e; cases e)) ?_⟩⟩
      refine ⟨_, rfl, _, _, _, _, false, rfl, .ty "dict", .base (.bl bb), kit_ty (by decide +kernel), _, rfl, iteF ?_⟩
      refine ⟨_, rfl, (by show 2 ≤ sizeLine; decide), fun t ht => ⟨_, t, _, _, [.type "list", .type "tuple"], false, rfl, upd_same, .cons (.ty _) (.cons (.ty _) .nil), .base (.bl bb), kit_list (by decide +kernel) (fun _ => by decide +kernel), _, rfl, iteF ?_⟩⟩
      refine ⟨_, rfl, _, _, _, _, true, rfl, .ty "bool", .base (.bl bb), kit_ty (by decide +kernel), _, rfl, _, _, _, _, true, rfl, .ty "bool", .base (.bl bb), kit_ty (by decide +kernel), rfl, _, rfl, ifF (by decide) ⟨_, rfl, _, _, _, _, true, rfl, .ty "int", .base (.bl bb), kit_ty (by decide +kernel), _, rfl, _, _, _, _, true, rfl, .ty "int", .base (.bl bb), kit_ty (by decide +kernel), rfl, _, rfl, ifF (by decide) ?_⟩⟩
      refine ⟨_, rfl, _, _, _, _, false, rfl, .ty "str", .base (.bl bb), kit_ty (by decide +kernel), _, rfl, _, _, _, _, false, rfl, .ty "str", .base (.bl bb), kit_ty (by decide +kernel), rfl, _, rfl, ifT (by decide) ⟨_, rfl, _, rfl, rfl, ?_⟩⟩
      rw [decide_eq_true rfl]
      exact q _ (same_upd ht)
    · refine ⟨_, rfl, rfl, _, rfl, ifF (decide_eq_false (by intro e; cases e)) ⟨_, rfl, rfl, _, rfl, ifF (decide_eq_false (by intro e; cases e)) ?_⟩⟩
      refine ⟨_, rfl, _, _, _, _, false, rfl, .ty "dict", .base (.int i), kit_ty (by decide +kernel), _, rfl, iteF ?_⟩
      refine ⟨_, rfl, (by show 2 ≤ sizeLine; decide), fun t ht => ⟨_, t, _, _, [.type "list", .type "tuple"], false, rfl, upd_same, .cons (.ty _) (.cons (.ty _) .nil), .base (.int i), kit_list (by decide +kernel) (fun _ => by decide +kernel), _, rfl, iteF ?_⟩⟩
      refine ⟨_, rfl, _, _, _, _, false, rfl, .ty "bool", .base (.int i), kit_ty (by decide +kernel), _, rfl, _, _, _, _, false, rfl, .ty "bool", .base (.int i), kit_ty (by decide +kernel), rfl, _, rfl, ifF (by decide) ⟨_, rfl, _, _, _, _, true, rfl, .ty "int", .base (.int i), kit_ty (by decide +kernel), _, rfl, _, _, _, _, true, rfl, .ty "int", .base (.int i), kit_ty (by decide +kernel), rfl, _, rfl, ifF (by decide) ?_⟩⟩
      refine ⟨_, rfl, _, _, _, _, false, rfl, .ty "str", .base (.int i), kit_ty (by decide +kernel), _, rfl, _, _, _, _, false, rfl, .ty "str", .base (.int i), kit_ty (by decide +kernel), rfl, _, rfl, ifT (by decide) ⟨_, rfl, _, rfl, rfl, ?_⟩⟩
      rw [decide_eq_true rfl]
      exact q _ (same_upd ht)
    · refine ⟨_, rfl, rfl, _, rfl, ifF (decide_eq_false (by intro e; cases e)) ⟨_, rfl, rfl, _, rfl, ifF (decide_eq_false (by intro e; cases e)) ?_⟩⟩
      refine ⟨_, rfl, _, _, _, _, false, rfl, .ty "dict", .base (.str z), kit_ty (by decide +kernel), _, rfl, iteF ?_⟩
      refine ⟨_, rfl, (by show 2 ≤ sizeLine; decide), fun t ht => ⟨_, t, _, _, [.type "list", .type "tuple"], false, rfl, upd_same, .cons (.ty _) (.cons (.ty _) .nil), .base (.str z), kit_list (by decide +kernel) (fun _ => by decide +kernel), _, rfl, iteF ?_⟩⟩
      refine ⟨_, rfl, _, _, _, _, false, rfl, .ty "bool", .base (.str z), kit_ty (by decide +kernel), _, rfl, _, _, _, _, false, rfl, .ty "bool", .base (.str z), kit_ty (by decide +kernel), rfl, _, rfl, ifF (by decide) ⟨_, rfl, _, _, _, _, false, rfl, .ty "int", .base (.str z), kit_ty (by decide +kernel), _, rfl, _, _, _, _, false, rfl, .ty "int", .base (.str z), kit_ty (by decide +kernel), rfl, _, rfl, ifF (by decide) ?_⟩⟩
      refine ⟨_, rfl, _, _, _, _, true, rfl, .ty "str", .base (.str z), kit_ty (by decide +kernel), _, rfl, _, _, _, _, true, rfl, .ty "str", .base (.str z), kit_ty (by decide +kernel), rfl, _, rfl, ifT (by decide) ⟨_, rfl, _, rfl, rfl, ?_⟩⟩
      rw [decide_eq_true rfl]
      exact q _ (same_upd ht)
    · rename_i p' q' xs ys
      refine ⟨_, rfl, rfl, _, rfl, ifF (decide_eq_false (by intro e; cases e)) ⟨_, rfl, rfl, _, rfl, ifF (decide_eq_false (by intro e; cases e)) ?_⟩⟩
      refine ⟨_, rfl, _, _, _, _, false, rfl, .ty "dict", .base (.lst hq), kit_ty (by decide +kernel), _, rfl, iteF ?_⟩
      refine ⟨_, rfl, (by show 2 ≤ sizeLine; decide), fun t ht => ⟨_, t, _, _, [.type "list", .type "tuple"], true, rfl, upd_same, .cons (.ty _) (.cons (.ty _) .nil), .base (.lst (same_upd ht _ _ hq)), kit_list (by decide +kernel) (fun e => by cases e), _, rfl, iteT ?_⟩⟩
      have s1 : Same H (upd H t (.tup [.ty "list", .ty "tuple"])) := same_upd ht
      have hp1 := s1 _ _ hp
      have hq1 := s1 _ _ hq
      refine ⟨_, rfl, _, _, _, _, true, rfl, .ty "list", .base (.lst hp1), kit_ty (by decide +kernel), _, rfl, _, _, _, _, true, rfl, .ty "list", .base (.lst hq1), kit_ty (by decide +kernel), rfl, _, rfl, ifF (by decide) ⟨_, rfl, _, _, _, _, false, rfl, .ty "tuple", .base (.lst hp1), kit_ty (by decide +kernel), _, rfl, _, _, _, _, false, rfl, .ty "tuple", .base (.lst hq1), kit_ty (by decide +kernel), rfl, _, rfl, ifF (by decide) ?_⟩⟩
      refine ⟨_, rfl, p', xs, rfl, .inl (SqL.of hp1), _, rfl, q', ys, rfl, .inl (SqL.of hq1), rfl, _, rfl, ifT (decide_eq_true (by rw [hl])) ?_⟩
      refine ⟨_, rfl, _, rfl, p', q', xs, ys, rfl, .inl ⟨SqL.of hp1, SqL.of hq1, fun D hD => ?_⟩⟩
      have fD := s1.free hD
      refine lc_it (walk_zip (K := K) (a := p') (b := q') (xs := xs) (ys := ys) (n := xs.length) (by omega)) (fun i H' => Same H H' ∧ H' D = some (.lst ((List.replicate i true).map V.bl))) ⟨same_put s1 fD, upd_same⟩
        (fun i H' _ hv => ⟨SqL.of (hv.1 _ _ hp), SqL.of (hv.1 _ _ hq)⟩) ?_ ?_
      · rintro i v H' H2 hi ⟨sm, hDl⟩ ⟨t2, a1, a2, rfl, ht2, rfl, e1, e2⟩
        have s2 : Same H' (upd H' t2 (.tup [a1, a2])) := same_upd ht2
        refine ⟨t2, _, rfl, .inl (.inl upd_same), rfl, a1, [a2], rfl, a2, [], rfl, rfl, rfl, ?_⟩
        refine ⟨_, rfl, _, rfl, a1, a2, rfl, (hh i a1 a2 e1 e2).same (sm.trans s2), fun H3 s3 => ?_⟩
        refine ⟨_, s3 _ _ (s2 _ _ hDl), ?_, same_put (sm.trans (s2.trans s3)) fD, ?_⟩
        · rw [List.length_map, List.length_replicate]
          exact Nat.lt_of_lt_of_le hi (Nat.le_trans hz (by decide))
        · rw [upd_same, List.replicate_succ', List.map_append]
          rfl
      · rintro H' ⟨sm, hDl⟩
        refine ⟨D, List.replicate xs.length true, rfl, SqL.of hDl, ?_⟩
        have e : (List.replicate xs.length true).all id = true := by
          rw [List.all_eq_true]
          intro b hb
          exact (List.mem_replicate.mp hb).2
        rw [e]
        exact q _ sm
    · rename_i p' q' xs ys
      refine ⟨_, rfl, rfl, _, rfl, ifF (decide_eq_false (by intro e; cases e)) ⟨_, rfl, rfl, _, rfl, ifF (decide_eq_false (by intro e; cases e)) ?_⟩⟩
      refine ⟨_, rfl, _, _, _, _, false, rfl, .ty "dict", .base (.tup hq), kit_ty (by decide +kernel), _, rfl, iteF ?_⟩
      refine ⟨_, rfl, (by show 2 ≤ sizeLine; decide), fun t ht => ⟨_, t, _, _, [.type "list", .type "tuple"], true, rfl, upd_same, .cons (.ty _) (.cons (.ty _) .nil), .base (.tup (same_upd ht _ _ hq)), kit_tup, _, rfl, iteT ?_⟩⟩
      have s1 : Same H (upd H t (.tup [.ty "list", .ty "tuple"])) := same_upd ht
      have hp1 := s1 _ _ hp
      have hq1 := s1 _ _ hq
      refine ⟨_, rfl, _, _, _, _, false, rfl, .ty "list", .base (.tup hp1), kit_ty (by decide +kernel), _, rfl, _, _, _, _, false, rfl, .ty "list", .base (.tup hq1), kit_ty (by decide +kernel), rfl, _, rfl, ifF (by decide) ⟨_, rfl, _, _, _, _, true, rfl, .ty "tuple", .base (.tup hp1), kit_ty (by decide +kernel), _, rfl, _, _, _, _, true, rfl, .ty "tuple", .base (.tup hq1), kit_ty (by decide +kernel), rfl, _, rfl, ifF (by decide) ?_⟩⟩
      refine ⟨_, rfl, p', xs, rfl, .inr (.inl (.inl hp1)), _, rfl, q', ys, rfl, .inr (.inl (.inl hq1)), rfl, _, rfl, ifT (decide_eq_true (by rw [hl])) ?_⟩
      refine ⟨_, rfl, _, rfl, p', q', xs, ys, rfl, .inr ⟨.inl (.inl hp1), .inl (.inl hq1), fun D hD => ?_⟩⟩
      have fD := s1.free hD
      refine lc_it (zip_tuples (K := K) (a := p') (b := q') (xs := xs) (ys := ys) hl) (fun i H' => Same H H' ∧ H' D = some (.lst ((List.replicate i true).map V.bl))) ⟨same_put s1 fD, upd_same⟩
        (fun i H' _ hv => ⟨.inl (.inl (hv.1 _ _ hp)), .inl (.inl (hv.1 _ _ hq))⟩) ?_ ?_
      · rintro i v H' H2 hi ⟨sm, hDl⟩ ⟨t2, a1, a2, rfl, ht2, rfl, e1, e2⟩
        have s2 : Same H' (upd H' t2 (.tup [a1, a2])) := same_upd ht2
        refine ⟨t2, _, rfl, .inl (.inl upd_same), rfl, a1, [a2], rfl, a2, [], rfl, rfl, rfl, ?_⟩
        refine ⟨_, rfl, _, rfl, a1, a2, rfl, (hh i a1 a2 e1 e2).same (sm.trans s2), fun H3 s3 => ?_⟩
        refine ⟨_, s3 _ _ (s2 _ _ hDl), ?_, same_put (sm.trans (s2.trans s3)) fD, ?_⟩
        · rw [List.length_map, List.length_replicate]
          exact Nat.lt_of_lt_of_le hi (Nat.le_trans hz (by decide))
        · rw [upd_same, List.replicate_succ', List.map_append]
          rfl
      · rintro H' ⟨sm, hDl⟩
        refine ⟨D, List.replicate xs.length true, rfl, SqL.of hDl, ?_⟩
        have e : (List.replicate xs.length true).all id = true := by
          rw [List.all_eq_true]
          intro b hb
          exact (List.mem_replicate.mp hb).2
        rw [e]
        exact q _ sm
theorem ok_same {f : Addr} {fd : FuncData} (F : Fun K "_law_same" "_law_same" sSame f fd) (T : SameT mg) (gS : mg "_law_same" = some (.ref f)) (bS : Binds K fd ["_law_found", "_law_due"] []) : ∀ n : Nat, FnOk P w K mg base CX0 (n + 1) f fd ["_law_found", "_law_due"] (spSame n)
  | 0 => ok_same0 F T
  | n + 1 => ok_sameS (ok_same F T gS bS n) gS bS F T
end

abbrev sLets : Stmt := topS 26
theorem scLets : FnScope [] [] (defScope sLets) := ⟨rfl, rfl, rfl, by decide +kernel, rfl, by decide +kernel, by decide +kernel⟩
section
variable {P : Program} {w : World} {K : PySem.W.Frag} {mg : Str → Option Value} {base : Heap}
theorem ok_lets {f : Addr} {fd : FuncData} (F : Fun K "_law_letters" "_law_letters" sLets f fd) : FnOk P w K mg base CX0 1 f fd [] spLets := by
  refine F.ok scLets (fun vs H Q E h => ?_) (fun cdv A outer s H vs Q E hr h => ?_)
  · obtain ⟨rfl, _⟩ := h
    rfl
  · obtain ⟨rfl, q⟩ := h
    exact ⟨_, pss_one (ps_ret pe_str), q⟩
end


end T02

namespace T02
open PySem PySem.Spec PyProof.Rows L2 Tm
abbrev sRaw : Stmt := topS 27
theorem scRaw : FnScope ["_law_bag_here", "_law_wide", "_law_many", "_law_size", "_law_points", "_law_marks", "_law_ends", "_law_most", "_law_letter", "_law_first", "_law_last", "_law_point"] ["_law_bag_here", "_law_wide", "_law_many"] (defScope sRaw) := ⟨rfl, rfl, rfl, by decide +kernel, rfl, by decide +kernel, by decide +kernel⟩
structure RawT (mg : Str → Option Value) : Prop where
  sorted : mg "sorted" = none
  list : mg "list" = none
  range : mg "range" = none
  dict : mg "dict" = none
  min : mg "min" = none
  max : mg "max" = none
  len : mg "len" = none
section
variable {P : Program} {w : World} {K : PySem.W.Frag} {mg : Str → Option Value} {base : Heap}
set_option maxHeartbeats 2000000 in
theorem ok_raw {f fP fM fA : Addr} {fd fdP fdM fdA : FuncData} (F : Fun K "_law_raw" "_law_raw" sRaw f fd)
    (FP : Fun K "_law_pull" "_law_pull" sPull fP fdP) (bP : Binds K fdP ["_law_bag_here", "_law_many"] []) (gP : mg "_law_pull" = some (.ref fP))
    (FM : Fun K "_law_mixed" "_law_mixed" sMixed fM fdM) (bM : Binds K fdM ["_law_bag_here", "_law_things"] []) (gM : mg "_law_mixed" = some (.ref fM))
    (FA : Fun K "_law_letters" "_law_letters" sLets fA fdA) (bA : Binds K fdA [] []) (gA : mg "_law_letters" = some (.ref fA)) (T : RawT mg) :
    FnOk P w K mg base CX0 3 f fd ["_law_bag_here", "_law_wide", "_law_many"] spRaw := by
  have GP : FnOk P w K mg base CX0 1 fP fdP ["_law_bag_here", "_law_many"] spPull := ok_pull FP T.len
  have GM : FnOk P w K mg base CX0 2 fM fdM ["_law_bag_here", "_law_things"] (spMixed K) := ok_mixed FM FP bP gP T.len T.list T.range
  have GA : FnOk P w K mg base CX0 1 fA fdA [] spLets := ok_lets FA
  refine F.ok scRaw (fun vs H Q E h => ?_) (fun cdv A outer s H vs Q E hr h => ?_)
  · obtain ⟨b, l, wide, many, rfl, _⟩ := h
    rfl
  · obtain ⟨b, l, wide, many, rfl, B, w0, w1, m0, m1, hand⟩ := h
    have hr1 : Room 1 _ := hr.mono (by decide)
    refine ⟨_, pss_cons (ps_set (i := 3) scRaw.nd rfl (.inl rfl) (pe_call GP hr1 (by rfl) gP FP.kp bP .nil pass0 (pa_cons (pv 0) (pa_cons (pe_op op_add (pv 1) pe_int) pa_nil))))
      (pss_cons (ps_set (i := 4) scRaw.nd rfl (.inl rfl) (pe_callB cr_sorted (by rfl) T.sorted (by decide +kernel) (pa_cons (pe_slice sl_list (pe_call GM hr (by rfl) gM FM.kp bM .nil pass0 (pa_cons (pv 0) (pa_cons (pe_listRg rfl (by rfl) T.list (prg_1 (by rfl) T.range pe_int)) pa_nil))) po_none (po_some (pv 3))) pa_nil)))
      (pss_cons (ps_set (i := 5) scRaw.nd rfl (.inl rfl) (pe_callTy (call_dictP rfl) (by rfl) T.dict (by decide +kernel) (pa_cons (pe_lc (own := [("_law_point", 11)]) (g := gName 11) (tt := tYes) rfl scRaw.nd (pi_list (pv 4)) (blkOk_by (own := [("_law_point", 11)]) (N := ["_law_bag_here", "_law_wide", "_law_many", "_law_size", "_law_points", "_law_marks", "_law_ends", "_law_most", "_law_letter", "_law_first", "_law_last", "_law_point"]) (sc := defScope sRaw) (by decide +kernel))
          (fun _ _ _ _ _ => pg_name (i := 11) scRaw.nd rfl (Or.inl rfl)) (fun _ _ _ _ _ => pts_nil) (fun _ _ _ _ _ => pe_tup (pa_cons (pv 11) (pa_cons (pe_call GP hr1 (by rfl) gP FP.kp bP .nil pass0 (pa_cons (pv 0) (pa_cons pe_int pa_nil))) pa_nil)))) pa_nil)))
      (pss_cons (ps_set (i := 6) scRaw.nd rfl (.inl rfl) pe_dnewK)
      (pss_cons (ps_set (i := 7) scRaw.nd rfl (.inl rfl) (pe_ifExp (pt_cmpR op_gt (pv 3) pe_int (nomark _)) (pe_call GP hr1 (by rfl) gP FP.kp bP .nil pass0 (pa_cons (pv 0) (pa_cons (pe_op op_add (pv 2) pe_int) pa_nil))) pe_int))
      (pss_cons (ps_for PassesOwn.never rfl (pi_list (pe_callB cr_sortedS (by rfl) T.sorted (by decide +kernel) (pa_cons (pe_slice sl_list (pe_call GM hr (by rfl) gM FM.kp bM .nil pass0 (pa_cons (pv 0) (pa_cons (pe_callTy (call_listS rfl) (by rfl) T.list boot_list (pa_cons (pe_call0 GA hr1 (by rfl) gA FA.kp bA .nil pass0) pa_nil)) pa_nil))) po_none (po_some (pv 7))) pa_nil))) (pg_name (i := 8) scRaw.nd rfl (.inl rfl))
        (pss_cons (ps_set (i := 9) scRaw.nd rfl (.inl rfl) (pe_call GP hr1 (by rfl) gP FP.kp bP .nil pass0 (pa_cons (pv 0) (pa_cons (pv 3) pa_nil))))
        (pss_cons (ps_set (i := 10) scRaw.nd rfl (.inl rfl) (pe_op op_mod (pe_op op_add (pe_op op_add (pv 9) pe_int) (pe_call GP hr1 (by rfl) gP FP.kp bP .nil pass0 (pa_cons (pv 0) (pa_cons (pe_op op_sub (pv 3) pe_int) pa_nil)))) (pv 3)))
        (pss_one (ps_dput (hu_of hr) (pv 6) (pv 8) (pe_tup (pa_cons (pe_ix ix_list (pv 4) (pe_callB (call_min2 rfl) (by rfl) T.min (by decide +kernel) (pa_cons (pv 9) (pa_cons (pv 10) pa_nil))) (fun _ _ => rfl)) (pa_cons (pe_ix ix_list (pv 4) (pe_callB (call_max2 rfl) (by rfl) T.max (by decide +kernel) (pa_cons (pv 9) (pa_cons (pv 10) pa_nil))) (fun _ _ => rfl)) pa_nil))) rfl)))))
      (pss_one (ps_ret (pe_tup (pa_cons (pv 5) (pa_cons (pv 6) pa_nil)))))))))), ?_⟩
    -- size
    refine ⟨_, rfl, _, rfl, _, _, rfl, rfl, b, l, _, rfl, B, by omega, by omega, fun H1 size k1 B1 z0 z1 => ?_⟩
    -- points
    refine ⟨_, rfl, 12, rfl, RgOk.of_le (by decide) (by decide) (by decide) (by decide), fun rg nrg => ?_⟩
    rw [rg12]
    have B2 : Bag (upd H1 rg (.lst (twelve.map V.int))) b l := B1.new nrg
    refine ⟨b, l, rg, _, rfl, B2, B1.nb nrg, SqL.of upd_same, by rw [List.length_map]; decide, fun H3 mx ys k3 B3 nmx hmx pm => ?_⟩
    obtain ⟨js, rfl, pj⟩ := perm_ints pm
    have nmxb : mx ≠ b := B2.nb nmx
    have jl : js.length = 12 := pj.length_eq
    refine ⟨_, rfl, _, rfl, mx, _, rfl, SqL.of hmx, fun sl nsl => ?_⟩
    have esz : size = ((size.toNat : Nat) : Int) := by omega
    have ecut : cutV (js.map V.int) none (some size) = (js.take size.toNat).map V.int := by
      rw [esz, cutV_take, List.map_take]
      rfl
    rw [ecut]
    refine ⟨sl, js.take size.toNat, rfl, SqL.of upd_same, by rw [List.length_take]; omega, fun ks po pk rk npo => ?_⟩
    have kl : ks.length = size.toNat := by rw [pk.length_eq, List.length_take]; omega
    have knd : ks.Nodup := pk.nodup_iff.mpr ((pj.nodup_iff.mpr twelve_nodup).sublist (List.take_sublist _ _))
    have krise : ks.Pairwise (· < ·) := rise_lt rk knd
    have kin : ∀ k ∈ ks, 0 ≤ k ∧ k < 12 := fun k hk => twelve_mem (pj.mem_iff.mp (List.mem_of_mem_take (pk.mem_iff.mp hk)))
    have K3 : Kp b H H3 := k1.trans ((Kp.new nrg).trans k3)
    have K4 : Kp b H (upd (upd H3 sl (.lst ((js.take size.toNat).map V.int))) po (.lst (ks.map V.int))) := K3.trans ((Kp.new nsl).trans (Kp.new npo))
    have B4 : Bag (upd (upd H3 sl (.lst ((js.take size.toNat).map V.int))) po (.lst (ks.map V.int))) b l := (B3.new nsl).new npo
    have hpo4 : (upd (upd H3 sl (.lst ((js.take size.toNat).map V.int))) po (.lst (ks.map V.int))) po = some (.lst (ks.map V.int)) := upd_same
    have npob : po ≠ b := (B3.new nsl).nb npo
    generalize upd (upd H3 sl (.lst ((js.take size.toNat).map V.int))) po (.lst (ks.map V.int)) = H4 at K4 B4 hpo4 ⊢
    -- marks
    refine ⟨_, rfl, po, rfl, ⟨_, SqL.of hpo4⟩, fun D nD => ?_⟩
    have nDb : D ≠ b := B4.nb nD
    refine lc_list (K := K) (a := po) (xs := ks.map V.int) (fun i H' => Kp b H4 H' ∧ Bag H' b l ∧ ∃ (ps : List Addr) (xs : List Int), H' D = some (.lst (ps.map V.ref)) ∧ ps.length = i ∧ xs.length = i ∧ (∀ x ∈ xs, x = 0 ∨ x = 1) ∧
        ∀ (j : Nat) (p : Addr) (k x : Int), ps[j]? = some p → ks[j]? = some k → xs[j]? = some x → H' p = some (.tup [.int k, .int x]))
      ⟨Kp.new nD, B4.new nD, [], [], upd_same, rfl, rfl, fun x hx => absurd hx List.not_mem_nil, fun j p k x hp => by cases hp⟩ (fun i H' _ hv => SqL.of (hv.1 _ _ npob hpo4)) ?_ ?_
    · rintro i v H' hv ⟨kp, B', ps, xs, hD, hpl, hxl, h01, hat⟩
      rw [List.getElem?_map] at hv
      cases ek : ks[i]? with
      | none => rw [ek] at hv; cases hv
      | some k =>
        rw [ek] at hv
        have ev : v = V.int k := (Option.some.inj hv).symm
        subst ev
        have hi : i < ks.length := (List.getElem?_eq_some_iff.mp ek).1
        refine ⟨rfl, ?_⟩
        refine ⟨_, rfl, _, rfl, b, l, 2, rfl, B', by decide, by decide, fun H6 x k6 B6 x0 x1 => ⟨(by show 2 ≤ sizeLine; decide), fun p np => ?_⟩⟩
        have hD6 := k6 _ _ nDb hD
        have npD : p ≠ D := (ne_of_none hD6 np).symm
        refine ⟨_, (same_upd np) _ _ hD6, by rw [List.length_map, hpl]; exact small1000 (by omega), ?_, ?_, ps ++ [p], xs ++ [x], ?_, by rw [List.length_append, hpl]; rfl, by rw [List.length_append, hxl]; rfl, ?_, ?_⟩
        · exact ((kp.trans k6).trans (Kp.new np)).put nD
        · exact (B6.new np).put nDb (B4.nl nD)
        · rw [upd_same, List.map_append]
          rfl
        · intro y hy
          rcases List.mem_append.mp hy with hy | hy
          · exact h01 y hy
          · rw [List.mem_singleton.mp hy]
            omega
        · intro j p' k' x' hp' hk' hx'
          by_cases hj : j < i
          · rw [List.getElem?_append_left (by omega)] at hp' hx'
            have old := hat j p' k' x' hp' hk' hx'
            have nb' : p' ≠ b := fun z => by
              rw [z] at old
              obtain ⟨xs0, i0, n0, s0, hb0, _⟩ := B'
              rw [hb0] at old
              cases old
            have nD' : p' ≠ D := fun z => by rw [z, hD] at old; cases old
            rw [upd_ne nD']
            exact (same_upd np) _ _ (k6 _ _ nb' old)
          · have ej : j = i := by
              have := (List.getElem?_eq_some_iff.mp hp').1
              rw [List.length_append, hpl] at this
              have e1 : [p].length = 1 := rfl
              omega
            subst ej
            rw [List.getElem?_append_right (by omega), hpl, Nat.sub_self] at hp'
            rw [List.getElem?_append_right (by omega), hxl, Nat.sub_self] at hx'
            rw [ek] at hk'
            cases hp'
            cases hx'
            cases hk'
            rw [upd_ne npD, upd_same]
    rintro H7 ⟨k7, B7, ps, xs, hD7, hpl, hxl, h01, hat⟩
    rw [List.length_map] at hpl hxl
    have zl : (ks.zip xs).length = ks.length := by rw [List.length_zip]; omega
    have zfst : (ks.zip xs).map (·.1) = ks := List.map_fst_zip (by omega)
    refine ⟨D, ps, marksK (ks.zip xs), rfl, SqL.of hD7, ?_, fun dm ndm => ?_⟩
    · refine placewise ps (marksK (ks.zip xs)) (by unfold marksK; rw [List.length_map, zl, hpl]) fun j p kv hp hkv => ?_
      unfold marksK at hkv
      rw [List.getElem?_map] at hkv
      cases ez : (ks.zip xs)[j]? with
      | none => rw [ez] at hkv; cases hkv
      | some z =>
        rw [ez] at hkv
        cases hkv
        obtain ⟨zk, zx⟩ := List.getElem?_zip_eq_some.mp ez
        exact .inl (.inl (hat j p z.1 z.2 hp zk zx))
    have ndk : ((([] : List (Key × V)) ++ marksK (ks.zip xs)).map (·.1)).Nodup := by
      have e : (marksK (ks.zip xs)).map (·.1) = ks.map Sum.inl := by
        unfold marksK
        rw [List.map_map]
        conv => rhs; rw [← zfst, List.map_map]
        rfl
      rw [List.nil_append, e]
      exact List.pairwise_map.mpr (knd.imp fun hac he => hac (Sum.inl.inj he))
    rw [merge_fresh _ _ ndk, List.nil_append]
    have hmark : ∀ m ∈ ks.zip xs, m.2 = 0 ∨ m.2 = 1 := fun m hm => h01 _ (List.of_mem_zip hm).2
    have hnode : ∀ m ∈ ks.zip xs, 0 ≤ m.1 ∧ m.1 < 12 := fun m hm => kin _ (List.of_mem_zip hm).1
    have K8 : Kp b H (upd H7 dm (.dK (marksK (ks.zip xs)))) := (K4.trans k7).trans (Kp.new ndm)
    have B8 : Bag (upd H7 dm (.dK (marksK (ks.zip xs)))) b l := B7.new ndm
    have ndmb : dm ≠ b := B7.nb ndm
    have hdm8 : (upd H7 dm (.dK (marksK (ks.zip xs)))) dm = some (.dK (marksK (ks.zip xs))) := upd_same
    have hpo8 : (upd H7 dm (.dK (marksK (ks.zip xs)))) po = some (.lst (ks.map V.int)) := (same_upd ndm) _ _ (k7 _ _ npob hpo4)
    generalize hms : ks.zip xs = ms at zfst hmark hnode K8 B8 hdm8 hpo8 ⊢
    generalize upd H7 dm (.dK (marksK ms)) = H8 at K8 B8 hdm8 hpo8 ⊢
    -- ends = {}
    intro de nde
    have K9 : Kp b H (upd H8 de (.dK [])) := K8.trans (Kp.new nde)
    have B9 : Bag (upd H8 de (.dK [])) b l := B8.new nde
    have ndeb : de ≠ b := B8.nb nde
    have hde9 : (upd H8 de (.dK [])) de = some (.dK []) := upd_same
    have hdm9 := (same_upd (o := .dK []) nde) _ _ hdm8
    have hpo9 := (same_upd (o := .dK []) nde) _ _ hpo8
    have nde0 : H de = none := K8.free B8.hb nde
    generalize upd H8 de (.dK []) = H9 at K9 B9 hde9 hdm9 hpo9 ⊢
    -- most
    refine gname ?_
    dsimp only
    refine cut (t1 := tAsg _ (gName 7)) (fun σ' H' => ∃ most : Int, σ' = [some (.ref b), some (.int wide), some (.int many), some (.int size), some (.ref po), some (.ref dm), some (.ref de), some (.int most), none, none, none, none] ∧ Bag H' b l ∧ Kp b H9 H' ∧ 0 ≤ most ∧ most ≤ 24 ∧ (0 < most → 1 < size)) (fun σ1 H10 hp => ?tail) (fun Nx hN => ?head)
    case head =>
      refine ⟨_, rfl, _, _, rfl, rfl, _, rfl, ite2 (fun hgt => ?_) (fun hle => ?_)⟩
      · have g := of_decide_eq_true hgt
        exact ⟨_, rfl, _, rfl, _, _, rfl, rfl, b, l, _, rfl, B9, by omega, by omega, fun H' d k' B' d0 d1 => hN _ _ ⟨d, rfl, B', k', d0, by omega, fun _ => g⟩⟩
      · exact hN _ _ ⟨0, rfl, B9, Kp.refl _ _, by decide, by decide, fun z => absurd z (by decide)⟩
    case tail =>
      obtain ⟨most, rfl, B10, k10, q0, q1, hsz⟩ := hp
      refine ⟨_, rfl, rfl, _, rfl, by rw [txt_alpha, txt_len]; decide, fun ls nls => ?_⟩
      rw [txt_alpha, txt_cps]
      have B11 : Bag (upd H10 ls (.lst (alpha.map sig))) b l := B10.new nls
      refine ⟨b, l, ls, alpha.map sig, rfl, B11, B10.nb nls, SqL.of upd_same, by rw [List.length_map]; decide, fun H12 mo ys k12 B12 nmo hmo pm2 => ?_⟩
      obtain ⟨ds, rfl, pd⟩ := perm_sigs pm2
      refine ⟨_, rfl, _, rfl, mo, _, rfl, SqL.of hmo, fun s2 ns2 => ?_⟩
      have emo : most = ((most.toNat : Nat) : Int) := by omega
      have dl : ds.length = 24 := pd.length_eq
      have ecut2 : cutV (ds.map sig) none (some most) = ((ds.take most.toNat).map fun d => txt [d]).map V.str := by
        rw [emo, cutV_take, ← List.map_take, List.map_map]
        rfl
      rw [ecut2]
      refine ⟨s2, (ds.take most.toNat).map (fun d => txt [d]), rfl, SqL.of upd_same, by rw [List.length_map, List.length_take]; omega, fun zs lt pz rz nlt => ?_⟩
      obtain ⟨cs, rfl, pc⟩ := perm_letters pz
      have cnd : cs.Nodup := pc.nodup_iff.mpr ((pd.nodup_iff.mpr alpha_nodup).sublist (List.take_sublist _ _))
      have crise : cs.Pairwise (· < ·) := letters_rise rz cnd
      have cal : ∀ c ∈ cs, c ∈ alpha := fun c hc => pd.mem_iff.mp (List.mem_of_mem_take (pc.mem_iff.mp hc))
      have cl : cs.length ≤ most.toNat := by rw [pc.length_eq, List.length_take]; omega
      have k13 : Kp b H9 (upd (upd H12 s2 (.lst (((ds.take most.toNat).map fun d => txt [d]).map V.str))) lt (.lst ((cs.map fun d => txt [d]).map V.str))) := k10.trans ((Kp.new nls).trans (k12.trans ((Kp.new ns2).trans (Kp.new nlt))))
      have B13 : Bag (upd (upd H12 s2 (.lst (((ds.take most.toNat).map fun d => txt [d]).map V.str))) lt (.lst ((cs.map fun d => txt [d]).map V.str))) b l := (B12.new ns2).new nlt
      have hlt13 : (upd (upd H12 s2 (.lst (((ds.take most.toNat).map fun d => txt [d]).map V.str))) lt (.lst ((cs.map fun d => txt [d]).map V.str))) lt = some (.lst ((cs.map fun d => txt [d]).map V.str)) := upd_same
      have nltb : lt ≠ b := (B12.new ns2).nb nlt
      generalize upd (upd H12 s2 (.lst (((ds.take most.toNat).map fun d => txt [d]).map V.str))) lt (.lst ((cs.map fun d => txt [d]).map V.str)) = H13 at k13 B13 hlt13 ⊢
      have hde13 := k13 _ _ ndeb hde9
      have hdm13 := k13 _ _ ndmb hdm9
      have hpo13 := k13 _ _ npob hpo9
      have nltde : lt ≠ de := ne_of hlt13 hde13 (by intro z; cases z)
      have npode : po ≠ de := ne_of hpo13 hde13 (by intro z; cases z)
      have ndel : de ≠ l := fun z => by
        obtain ⟨xs0, i0, n0, s0, _, hl0, _⟩ := id B13
        rw [z, hl0] at hde13
        cases hde13
      have ndmde : dm ≠ de := fun z => by rw [z] at hdm8; rw [hdm8] at nde; cases nde
      refine ⟨lt, rfl, ⟨_, SqL.of hlt13⟩, for_list (K := K) (a := lt) (xs := (cs.map fun d => txt [d]).map V.str)
        (fun i σ H' => ∃ (y8 y9 y10 : Option V) (es : List Edg), σ = [some (.ref b), some (.int wide), some (.int many), some (.int size), some (.ref po), some (.ref dm), some (.ref de), some (.int most), y8, y9, y10, none]
          ∧ Kp b H H' ∧ Bag H' b l ∧ H' lt = some (.lst ((cs.map fun d => txt [d]).map V.str)) ∧ H' po = some (.lst (ks.map V.int)) ∧ H' dm = some (.dK (marksK ms)) ∧ H' de = some (.dK (endsK es)) ∧ es.map (·.letter) = cs.take i
          ∧ ∀ e ∈ es, H' e.pair = some (.tup [.int e.lo, .int e.hi]) ∧ e.lo < e.hi ∧ e.lo ∈ ks ∧ e.hi ∈ ks)
        ⟨none, none, none, [], rfl, K9.trans k13, B13, hlt13, hpo13, hdm13, hde13, rfl, fun e he => absurd he List.not_mem_nil⟩ (fun i σ H' _ ⟨_, _, _, _, _, _, _, h1, _⟩ => SqL.of h1) ?_ ?_⟩
      · rintro i v σ H14 hv ⟨y8, y9, y10, es, rfl, K14, B14, hlt14, hpo14, hdm14, hde14, hes, hall⟩
        rw [List.map_map, List.getElem?_map] at hv
        cases ec : cs[i]? with
        | none => rw [ec] at hv; cases hv
        | some c =>
          rw [ec] at hv
          have ev : v = V.str (txt [c]) := (Option.some.inj hv).symm
          subst ev
          have hi : i < cs.length := (List.getElem?_eq_some_iff.mp ec).1
          have hs1 : 1 < size := hsz (by omega)
          refine ⟨_, rfl, _, rfl, b, l, size, rfl, B14, by omega, by omega, fun H15 d k15 B15 d0 d1 => ?_⟩
          refine ⟨_, rfl, _, _, rfl, rfl, _, rfl, _, rfl, _, _, rfl, rfl, b, l, _, rfl, B15, by omega, by omega, fun H16 g k16 B16 g0 g1 => ⟨_, _, rfl, rfl, _, rfl, _, _, rfl, rfl, (by show (0 : Int) < size; omega), ?_⟩⟩
          have g2 : g < size - 1 := g1
          have hl0 : 0 ≤ (d + 1 + g) % size := Int.emod_nonneg _ (by omega)
          have hl1 : (d + 1 + g) % size < size := Int.emod_lt_of_pos _ (by omega)
          have hne : (d + 1 + g) % size ≠ d := by
            by_cases c1 : d + 1 + g < size
            · rw [Int.emod_eq_of_lt (by omega) c1]
              omega
            · have c2 : (d + 1 + g) % size = d + 1 + g - size := by
                rw [← Int.sub_emod_right, Int.emod_eq_of_lt (by omega) (by omega)]
              omega
          show _
          generalize hlast : (d + 1 + g) % size = last at hl0 hl1 hne
          have k16' : Kp b H14 H16 := k15.trans k16
          have hpo16 := k16' _ _ npob hpo14
          have hlo : ∃ (u t : Nat), u < t ∧ t < ks.length ∧ (if last < d then last else d) = (u : Int) ∧ (if last > d then last else d) = (t : Int) := by
            by_cases c1 : last < d
            · exact ⟨last.toNat, d.toNat, by omega, by omega, by rw [if_pos c1]; omega, by rw [if_neg (by omega)]; omega⟩
            · exact ⟨d.toNat, last.toNat, by omega, by omega, by rw [if_neg c1]; omega, by rw [if_pos (by omega)]; omega⟩
          obtain ⟨u, t, hut, ht, eu, et⟩ := hlo
          have hu : u < ks.length := by omega
          have gu : (ks.map V.int)[u]? = some (.int ks[u]) := by rw [List.getElem?_map, List.getElem?_eq_getElem hu]; rfl
          have gt : (ks.map V.int)[t]? = some (.int ks[t]) := by rw [List.getElem?_map, List.getElem?_eq_getElem ht]; rfl
          refine ⟨_, rfl, _, rfl, _, rfl, _, _, rfl, po, _, _, .int ks[u], rfl, rfl, SqL.of hpo16, ?_, _, rfl, _, rfl, _, rfl, _, _, rfl, po, _, _, .int ks[t], rfl, rfl, SqL.of hpo16, ?_, (by show 2 ≤ sizeLine; decide), fun pr npr => ?_⟩
          · show atI (ks.map V.int) (if (d + 1 + g) % size < d then (d + 1 + g) % size else d) = _
            rw [hlast, eu]
            exact atI_nat gu
          · show atI (ks.map V.int) (if (d + 1 + g) % size > d then (d + 1 + g) % size else d) = _
            rw [hlast, et]
            exact atI_nat gt
          have hde16 := (same_upd (o := .tup [.int ks[u], .int ks[t]]) npr) _ _ (k16' _ _ ndeb hde14)
          have fresh : (Sum.inr (txt [c]) : Key) ∉ (endsK es).map (·.1) := fun z => by
            unfold endsK at z
            rw [List.map_map] at z
            obtain ⟨e, he, ez⟩ := List.mem_map.mp z
            have ez2 : e.letter = c := List.head_eq_of_cons_eq (txt_inj (Sum.inr.inj ez))
            have hm : c ∈ cs.take i := by
              rw [← hes, ← ez2]
              exact List.mem_map.mpr ⟨e, he, rfl⟩
            obtain ⟨j, hj, ej⟩ := List.mem_iff_getElem.mp hm
            rw [List.length_take] at hj
            rw [List.getElem_take] at ej
            have gi : cs[i] = c := Option.some.inj ((List.getElem?_eq_getElem hi).symm.trans ec)
            have up := List.pairwise_iff_getElem.mp crise j i (by omega) hi (by omega)
            rw [ej, gi] at up
            exact Nat.lt_irrefl _ up
          have eel : es.length = i := by
            have e := congrArg List.length hes
            rw [List.length_map, List.length_take] at e
            omega
          refine ⟨_, rfl, _, rfl, de, _, rfl, DPut.k (k := Sum.inr (txt [c])) hde16 (by unfold endsK; rw [List.length_map, eel]; exact small1000 (by omega)), ?_⟩
          rw [putK_new _ (valV_fresh fresh)]
          refine ⟨_, _, _, es ++ [⟨c, pr, ks[u], ks[t]⟩], rfl, ?_, ?_, ?_, ?_, ?_, ?_, ?_, ?_⟩
          · exact ((K14.trans k16').trans (Kp.new npr)).put nde0
          · exact (B16.new npr).put ndeb ndel
          · rw [upd_ne nltde]
            exact (same_upd npr) _ _ (k16' _ _ nltb hlt14)
          · rw [upd_ne npode]
            exact (same_upd npr) _ _ hpo16
          · rw [upd_ne ndmde]
            exact (same_upd npr) _ _ (k16' _ _ ndmb hdm14)
          · rw [upd_same]
            unfold endsK
            rw [List.map_append]
            rfl
          · rw [List.map_append, hes, List.take_succ_eq_append_getElem hi]
            have gi : cs[i] = c := Option.some.inj ((List.getElem?_eq_getElem hi).symm.trans ec)
            rw [gi]
            rfl
          · intro e he
            rcases List.mem_append.mp he with he | he
            · obtain ⟨a1, a2, a3, a4⟩ := hall e he
              have nb' : e.pair ≠ b := fun z => by
                rw [z] at a1
                obtain ⟨xs0, i0, n0, s0, hb0, _⟩ := id B14
                rw [hb0] at a1
                cases a1
              have nd' : e.pair ≠ de := fun z => by rw [z, hde14] at a1; cases a1
              refine ⟨?_, a2, a3, a4⟩
              rw [upd_ne nd']
              exact (same_upd npr) _ _ (k16' _ _ nb' a1)
            · rw [List.mem_singleton.mp he]
              have npd : pr ≠ de := fun z => by rw [z, k16' _ _ ndeb hde14] at npr; cases npr
              refine ⟨?_, rise_get krise hu ht hut, List.getElem_mem hu, List.getElem_mem ht⟩
              show (upd (upd H16 pr (.tup [.int ks[u], .int ks[t]])) de _) pr = _
              rw [upd_ne npd, upd_same]
      · rintro σ H14 ⟨y8, y9, y10, es, rfl, K14, B14, hlt14, hpo14, hdm14, hde14, hes, hall⟩
        rw [List.length_map, List.length_map, List.take_length] at hes
        refine ⟨_, rfl, _, rfl, (by show 2 ≤ sizeLine; decide), fun tt ntt => ?_⟩
        have st := same_upd (o := .tup [.ref dm, .ref de]) ntt
        refine hand _ tt ms es (K14.trans (Kp.new ntt)) (B14.new ntt) ⟨dm, de, upd_same, st _ _ hdm14, st _ _ hde14, ?_⟩
        refine ⟨by rw [zfst]; exact krise, hnode, hmark, by rw [hes]; exact crise, ?_, fun e he => st _ _ (hall e he).1, fun e he => (hall e he).2.1, fun e he => by rw [zfst]; exact (hall e he).2.2⟩
        intro e he
        refine cal _ ?_
        rw [← hes]
        exact List.mem_map.mpr ⟨e, he, rfl⟩
end


end T02

/-! try with several except clauses that give the exception a name -/
namespace Tm
open PySem PySem.Spec PyProof.Rows L2
section
variable {X : Cx} {pins : List (Addr × Obj)} {σ : L2.St} {H : Hp} {a : Addr} {cls : Value} {d : Option Addr} {s : Shared}
/-- the exception at a has been caught in this frame, nothing has been done with it -/
def InHand (X : Cx) (pins : List (Addr × Obj)) (σ : L2.St) (H : Hp) (a : Addr) (cls : Value) (d : Option Addr) (s : Shared) : Prop :=
  ∃ (B : Heap) (s0 : Shared), Inv X pins σ H s0 ∧ (∀ b o, s0.heap.get? b = some o → b ∉ frs X.stack → B.get? b = some o) ∧ s0.heap.UpToSlots s.heap ∧ HandSPX.FlyingZ B X.stack a (Zc cls d) s.heap ∧ H a = none ∧ s.os = s0.os ∧ AllBare s.gens
theorem InHand.inv (c : InHand X pins σ H a cls d s) : Inv X pins σ H s := by
  obtain ⟨B, s0, inv, ground, slots, fly, _, os, bare⟩ := c
  exact inv.landed ground fly.1 slots os bare
theorem InHand.new (c : InHand X pins σ H a cls d s) : H a = none := by
  obtain ⟨_, _, _, _, _, _, n, _⟩ := c
  exact n
/-- the suite of a clause may begin -/
theorem InHand.suite (c : InHand X pins σ H a cls d s) (top : X.stack = X.env :: X.outer) (fr : X.env.frame = some X.env.locals) :
    ∃ oe : Obj, s.heap.get? a = some oe ∧ Zc cls d oe ∧ (∃ vs, oe.data = .fields vs) ∧ Inv (X.suite a ((a, oe) :: (X.pn ++ pins))) [] σ H s := by
  have inv := c.inv
  obtain ⟨B, s0, _, _, _, fly, new, _, _⟩ := c
  obtain ⟨oe, vs, there, is, dat⟩ := fly.there
  have off : a ∉ frs X.stack := fun hm => by
    obtain ⟨_, o2, there2, other⟩ := fly.2.2.1.mem hm
    rw [there] at there2
    cases there2
    exact other _ dat
  have offL : a ≠ X.env.locals := fun e => off (by
    rw [top]
    exact List.mem_filterMap.mpr ⟨X.env, List.mem_cons_self, by rw [fr, e]⟩)
  have offF : a ∉ X.fs := fun hm => off (by
    obtain ⟨env, he, q⟩ := List.mem_filterMap.mp hm
    rw [top]
    exact List.mem_filterMap.mpr ⟨env, List.mem_cons_of_mem _ he, q⟩)
  exact ⟨oe, there, is, ⟨vs, dat⟩, inv.suite there dat new offL offF⟩
theorem InHand.again {M : Model} {A : Around} {E : Value → Shared → Prop} {Q : Unit → Shared → Prop} (c : InHand X pins σ H a cls d s) (next : ∀ s', InHand X pins σ H a cls d s' → Q () s') : wpAny M A (setFlight (.ref a) none) Q E s := by
  obtain ⟨B, s0, inv, ground, slots, fly, new, os, bare⟩ := c
  refine HandSPX.lands_againZ fly ?_
  intro h fly2 slots2
  exact next _ ⟨B, s0, inv, ground, slots.trans slots2, fly2, new, os, bare⟩
end
/-- the name of the clause is empty behind its suite -/
def nameless (i : Nat) (D : Ends) : Ends := { nx := fun σ H => D.nx (σ.set i none) H, rt := D.rt, bk := fun σ H => D.bk (σ.set i none) H, ct := fun σ H => D.ct (σ.set i none) H }
abbrev Clause := Value × (Addr → Value → Option Addr → TS)
def wNamed (K : PySem.W.Frag) (i : Nat) (Wout : WX) (D : Ends) : List Clause → WX
  | [] => Wout
  | c :: r => fun cls d σ H => ∃ b, PySem.W.exmOne K cls c.1 = some b ∧ (b = true → ∀ a, H a = none → c.2 a cls d (nameless i D) (σ.set i (some (.ref a))) H) ∧ (b = false → wNamed K i Wout D r cls d σ H)
inductive Clauses (X : Cx) (n : Str) : List ExceptHandler → List Clause → Prop
  | nil : Clauses X n [] []
  | cons {x : Str} {c : Value} {ts : Addr → Value → Option Addr → TS} {st : Stmt} {more : List Stmt} {p q : Pos} {hds : List ExceptHandler} {l : List Clause} (named : Names X x c)
      (suite : ∀ (a : Addr) (oe : Obj) (cls : Value) (d : Option Addr) (pn : List (Addr × Obj)), Zc cls d oe → (∃ vs, oe.data = .fields vs) → PSs (X.suite a ((a, oe) :: pn)) (st :: more) (ts a cls d)) (rest : Clauses X n hds l) :
      Clauses X n (.ExceptHandler (some (.Name x p)) (some n) (st :: more) q :: hds) ((c, ts) :: l)
section
variable {X : Cx} {n : Str} {i : Nat} {Wout : WX} {pins : List (Addr × Obj)} {D : Ends}
/-- the clauses are asked one behind the other -/
theorem clauses_run (top : X.stack = X.env :: X.outer) (fr : X.env.frame = some X.env.locals) (nd : X.N.Nodup) (slot : X.N[i]? = some n) (loc : X.env.kindOf n = some .local) (takes : Takes X Wout) (ok : X.Ok) {a : Addr} :
    ∀ {hds : List ExceptHandler} {l : List Clause}, Clauses X n hds l → ∀ {σ : L2.St} {H : Hp} {cls : Value} {d : Option Addr} {s : Shared}, InHand X pins σ H a cls d s → wNamed X.K i Wout D l cls d σ H →
      wpAny (model X.prog X.w) X.A (handleBy (.ref a) X.env hds) (SP X pins D) X.xe s := by
  intro hds l cl
  induction cl with
  | nil =>
    intro σ H cls d s hand wish
    apply wpAny_handleBy_nil
    obtain ⟨B, s0, inv, ground, slots, fly, new, os, bare⟩ := hand
    obtain ⟨_, _, _, oe, vs, T, oT, ts, there, _, dat, cell, _⟩ := id fly
    have out : wpAny (model X.prog X.w) X.A (setFlight (.ref a) X.env.frame) (fun _ s4 => wpAny (model X.prog X.w) X.A (throw (.ref a) : Sem Flow) (SP X pins D) X.xe s4) X.xe s := by
      rw [fr]
      refine HandSPX.setFlight_upZ fly ?_
      intro h held slots2
      apply wpAny_throw
      apply takes
      exact ⟨a, B, s0, pins, σ, H, cls, d, rfl, inv, ground, slots.trans slots2, Or.inr (Or.inr held), new, os, bare, wish⟩
    unfold PySem.passOn
    apply wpAny_bind
    refine wpAny_field there dat cell ?_
    have some_ : ¬ ((Value.ref T == Value.none) = true) := by simp
    rw [if_neg some_]
    first
      | exact wpAny_bind out
      | exact wpAny_bind (wpAny_pure (wpAny_bind out))
  | @cons x c ts st more p q hds2 l2 named suite rest ih =>
    intro σ H cls d s hand wish
    obtain ⟨b, match_, yes, no⟩ := wish
    obtain ⟨oe, there, is, flds, inS⟩ := hand.suite top fr
    apply wpAny_handleBy_cons _ (by intro z; cases z)
    apply codeAny_handlers_test
    have typed : PySem.W.Looks (model X.prog X.w) s.heap (typeOf (.ref a)) cls := by
      intro A Q E s2 keeps goal
      exact wpAny_typeOf_ref (keeps _ _ there) (by rw [is.1]; exact goal)
    have matched := PySem.W.exm_one (M := model X.prog X.w) hand.inv.kIn typed match_
    have look : ∀ {Q : Value → Shared → Prop} {E : Value → Shared → Prop}, Q c s → wpAny (model X.prog X.w) (X.A.mark (some (.ref a))) (eval (.Name x p) X.env) Q E s := by
      intro Q E goal
      rcases named with ⟨glob, plain, own | ⟨none_, boot, plain2⟩⟩
      · exact ld_glob (X := X.suite a ((a, oe) :: (X.pn ++ pins))) inS glob own goal plain
      · exact ld_blt (X := X.suite a ((a, oe) :: (X.pn ++ pins))) inS glob none_ boot goal plain2 plain
    apply look
    apply matched.here
    cases b with
    | false => exact ih hand (no rfl)
    | true =>
      apply codeAny_handlers_suite_as
      apply hand.again
      intro s2 hand2
      obtain ⟨oe2, there2, is2, flds2, inS2⟩ := hand2.suite top fr
      refine store_ok (X := X.suite a ((a, oe2) :: (X.pn ++ pins))) (v := .ref a) inS2 nd slot (.inl loc) rfl ?_ (.inr loc)
      intro s3 inS3
      apply wpAny_mono ((suite a oe2 cls d (X.pn ++ pins) is2 flds2).run [] s3 _ H _ inS3 (yes rfl a hand.new)) _ (fun _ _ z => z.elim)
      intro flow s4 told
      have leave : ∀ {σ4 : L2.St} {H4 : Hp} {Q : Shared → Prop}, Inv (X.suite a ((a, oe2) :: (X.pn ++ pins))) [] σ4 H4 s4 → (∀ s5, Inv X pins (σ4.set i none) H4 s5 → Q s5) →
          wpAny (model X.prog X.w) X.A (do bindName X.env n .none; unbindBehindTheSuite X.env n q) (fun _ s5 => Q s5) X.xe s4 := fun inv4 goal => gone_ok (inv4.unsuite ok) nd slot loc goal
      match flow, told with
      | .next, ⟨σ4, H4, inv4, goal⟩ => exact leave inv4 fun s5 inv5 => ⟨_, _, inv5, goal⟩
      | .brk, ⟨σ4, H4, inv4, goal⟩ => exact leave inv4 fun s5 inv5 => ⟨_, _, inv5, goal⟩
      | .cont, ⟨σ4, H4, inv4, goal⟩ => exact leave inv4 fun s5 inv5 => ⟨_, _, inv5, goal⟩
      | .ret u, ⟨v4, σ4, H4, inv4, rel, goal⟩ => exact leave inv4 fun s5 inv5 => ⟨_, _, _, inv5, rel, goal⟩
theorem ps_try_named {body : List Stmt} {hd : ExceptHandler} {hds : List ExceptHandler} {l : List Clause} {pos : Pos} {tb : WX → TS} (top : X.stack = X.env :: X.outer) (fr : X.env.frame = some X.env.locals) (nd : X.N.Nodup) (slot : X.N[i]? = some n) (loc : X.env.kindOf n = some .local) (takes : Takes X Wout)
    (within : ∀ (W : WX) (pn : List (Addr × Obj)) (xe : Value → Shared → Prop), Takes (X.tr pn xe) W → PassesOwn (model X.prog X.w) X.A X.env xe → PSs (X.tr pn xe) body (tb W)) (cl : Clauses X n (hd :: hds) l) :
    PS X (.Try body (hd :: hds) [] [] pos) (fun D σ H => tb (wNamed X.K i Wout D l) D σ H) where
  run pins s σ H D inv ask := by
    have ok := inv.ok
    apply wpAny_Try_except
    apply wpAny_mono ((within (wNamed X.K i Wout D l) (X.pn ++ pins) (fun e s1 => wpAny (model X.prog X.w) X.A (noteFrame e X.env) (fun _ s2 => wpAny (model X.prog X.w) X.A (setFlight e none) (fun _ s3 => wpAny (model X.prog X.w) X.A (handleBy e X.env (hd :: hds)) (SP X pins D) X.xe s3) X.xe s2) X.xe s1) ?caught PassesOwn.looking).run [] s σ H D (inv.toTry _) ask) ?done (fun _ _ raised => raised)
    case caught =>
      rintro u s1 ⟨a, B, s0, pins1, σ1, H1, cls, d, rfl, inv1, ground, slots, sky, new, os, bare, wish⟩
      have inv0 : Inv X pins σ1 H1 s0 := inv1.ofTry ok
      have sky1 : Sky B (X.env :: X.outer) a (Zc cls d) X.env.locals s1.heap := top ▸ sky
      refine Sky.land Zc.steady (by rw [ok.frames, top]) fr sky1 ?_
      intro h fly slots2
      refine clauses_run top fr nd slot loc takes ok cl (a := a) ⟨B, s0, inv0, ground, slots.trans slots2, ?_, new, os, bare⟩ wish
      rw [top]
      exact fly
    case done =>
      intro flow s1 told
      match flow, told with
      | .next, ⟨σ1, H1, inv1, goal⟩ => exact wpAny_execs_nil ⟨σ1, H1, inv1.ofTry ok, goal⟩
      | .brk, ⟨σ1, H1, inv1, goal⟩ => exact ⟨σ1, H1, inv1.ofTry ok, goal⟩
      | .cont, ⟨σ1, H1, inv1, goal⟩ => exact ⟨σ1, H1, inv1.ofTry ok, goal⟩
      | .ret u, ⟨v, σ1, H1, inv1, rel, goal⟩ => exact ⟨v, σ1, H1, inv1.ofTry ok, rel, goal⟩
end
end Tm

/-! an exception that is in hand: its fields, and a def that is given it -/
namespace Tm
open PySem PySem.Spec PyProof.Rows L2 L2H
/-- e.f, e the exception at a, of the class cls, with the dict d -/
def tXfA (K : PySem.W.Frag) (a : Addr) (cls : Value) (d : Option Addr) (f : Str) (te : TE) : TE := fun σ H Q => te σ H fun x H1 => x = .ref a ∧ ∃ (C dd : Addr) (fs : List (Str × V)) (v : V), cls = .ref C ∧ XfC K C ∧ PySem.W.findIn K (.ref C) f = some none ∧ d = some dd ∧ H1 dd = some (.xd fs) ∧ fs.lookup f = some v ∧ Q v H1
theorem pe_pinned {X : Cx} {a : Addr} {oe : Obj} {cls : Value} {d : Option Addr} {e : Expr} {te : TE} {pos : Pos} {f : Str} (pin : (a, oe) ∈ X.pn) (is : Zc cls d oe) (flds : ∃ vs, oe.data = .fields vs) (he : PE X e te)
    (plain : attributeBase e f X.env (eval e X.env) = eval e X.env := by rfl) : PE X (.Attribute e f pos) (tXfA X.K a cls d f te) where
  run pins s σ H Q inv ask := by
    apply attr_of plain
    apply wpAny_mono (he.run pins s σ H _ inv ask) _ (fun _ _ raised => raised)
    rintro u s1 ⟨x, H1, inv1, rel, rfl, C, dd, fs, v, rfl, T, none_, rfl, dict, field, goal⟩
    obtain rfl : u = Value.ref a := rel
    obtain ⟨there, _⟩ := inv1.pin (a, oe) (List.mem_append_left _ pin)
    obtain ⟨vs, dat⟩ := flds
    obtain ⟨m, names, rels⟩ : ObjOk X.prog X.w H1 s1.heap dd (.xd fs) := inv1.hok dd _ dict
    obtain ⟨od, at_d, look⟩ := lookIn_ns names
    have got := rels f
    rw [field] at got
    obtain ⟨w, hw, rw_⟩ := RelO.some_of got
    have inst : PySem.W.InstAt s1.heap a oe C (some od) := by
      refine ⟨there, is.1, ?_, ?_⟩
      · unfold PySem.W.notCls
        rw [dat] <;> rfl
      · rw [is.2]
        exact at_d
    have own := PySem.W.findObj_own T.hdC none_ rfl (by rw [look, hw])
    exact HandSPX.exc_get inv1.kIn inst T.ga T.gg T.exC own (handed_of rw_) ⟨v, H1, inv1.tok _, rw_, goal⟩
/-- a def is run while the exception at a is handled; nothing that is raised leaves it -/
theorem run_handled {P : Program} {w : World} {K : PySem.W.Frag} {mg : Str → Option Value} {base : Heap} {k : Nat} {f : Addr} {name qual : Str} {params : Arguments} {body : List Stmt} {scope : Scope} {dV kV doc pm cdv ct oc : Value} {an od : Option Addr} {osl : Array (Option Value)} {N ps : List Str}
    (written : K.lookup f = some ⟨oc, od, .func (PySem.W.fnOf name qual params body scope dV kV doc pm an cdv ct), osl⟩) (code : PySem.W.codeIn K cdv qual = true) (S : FnScope N ps scope) {A : Around} {outer : List Env} {s : Shared} {H : Hp} {args : Args} {us : List Value} {vs : List V} {Q : VK} {E : XK} {p : Addr × Obj}
    (room : RoomH (k + 1) A) (pin : PinOk outer H s p) (around : Env0 P w K mg base A outer s H) (binds : BindsTo s (PySem.W.fnOf name qual params body scope dV kV doc pm an cdv ct) args (ps.zip us)) (rel : Vals vs us) (len : vs.length = ps.length)
    (walk : RoomH k (A.deeper (envOfC qual scope s.heap.objs.size f cdv)) → ∃ t, PSs (cxH CX0 P w K mg base N qual scope f cdv A outer s H E p) body t ∧ t { nx := fun _ H' => Q .non H', rt := Q } (L2.start N vs) H) :
    codeAny (model P w) A (.call (.ref f) args) (CR CX0 outer P w H s Q E) s := by
  have stays : ∀ b o, base.get? b = some o → s.heap.get? b = some o := fun b o e => (around.bs b o e).1
  have kin : K.In s.heap := around.mod.kin.keeps stays
  apply codeAny_call_function room.depth (kin _ _ written) rfl S.co S.gen rfl (PySem.W.codeRec_of kin code)
  apply binds
  apply wpAny_newFunctionEnv_cells S.kind
  · rintro ⟨y, v⟩ hy
    rcases S.par y (List.of_mem_zip hy).1 with own | cell
    · exact Or.inl own
    · exact Or.inr ⟨cell, PySem.W.cellsFrom_some _ _ _ (.inl cell)⟩
  · rintro env rfl s1 entered
    refine ⟨(around.mod.nolimit.keeps stays).keeps entered.toInCall.keep, codeAny_func ?_⟩
    obtain ⟨t, does, goal⟩ := walk (room.deeper _)
    have inv := inv_startH (CX := CX0) (E := E) S pin around len rel entered
    apply wpAny_mono (does.run [] s1 (L2.start N vs) H _ inv goal) _ (fun _ _ raised => raised)
    intro flow s2 told
    match flow, told with
    | .ret u, ⟨v, σ2, H2, inv2, rv, q⟩ => exact ⟨v, H2, inv2.os, inv2.bare, inv2.base, inv2.hok, rv, q⟩
    | .next, ⟨σ2, H2, inv2, q⟩ => exact ⟨V.non, H2, inv2.os, inv2.bare, inv2.base, inv2.hok, rfl, q⟩
    | .brk, ⟨_, _, _, q⟩ => exact q.elim
    | .cont, ⟨_, _, _, q⟩ => exact q.elim
/-- g(e) in the suite of a clause, e the exception itself -/
theorem pe_given {X : Cx} {a : Addr} {oe : Obj} {pn : List (Addr × Obj)} {k : Nat} {f : Addr} {x y : Str} {params : Arguments} {body : List Stmt} {scope : Scope} {kV doc pm cdv ct oc : Value} {an od : Option Addr} {osl : Array (Option Value)} {N : List Str} {e : Expr} {te : TE} {q pos : Pos} {sp : Hp → VK → Prop}
    (written : X.K.lookup f = some ⟨oc, od, .func (PySem.W.fnOf x x params body scope .none kV doc pm an cdv ct), osl⟩) (code : PySem.W.codeIn X.K cdv x = true) (S : FnScope N [y] scope) (binds : L2.Binds X.K (PySem.W.fnOf x x params body scope .none kV doc pm an cdv ct) [y] [])
    (glob : Gl (X.suite a ((a, oe) :: pn)) x) (holds : X.mg x = some (.ref f)) (kept : PySem.W.keepIn X.K (.ref f) = true) (room : RoomH (k + 1) (X.suite a ((a, oe) :: pn)).A)
    (walk : ∀ (outer : List Env) (s : Shared) (H : Hp) (Q : VK), RoomH k ((X.suite a ((a, oe) :: pn)).A.deeper (envOfC x scope s.heap.objs.size f cdv)) → sp H Q → ∃ t, PSs (cxH CX0 X.prog X.w X.K X.mg X.base N x scope f cdv (X.suite a ((a, oe) :: pn)).A outer s H (fun _ _ _ => False) (a, oe)) body t ∧ t { nx := fun _ H' => Q .non H', rt := Q } (L2.start N [.ref a]) H)
    (he : PE (X.suite a ((a, oe) :: pn)) e te) (plainName : (x == ("__debug__" : Str)) = false := by decide) (first : starEach [e] X.env = [(false, eval e X.env)] := by rfl) :
    PE (X.suite a ((a, oe) :: pn)) (.Call (.Name x q) [e] [] pos) (fun σ H Q => te σ H fun v H1 => [v] = [V.ref a] ∧ sp H1 Q) where
  run pins s σ H Q inv ask := by
    apply wpAny_Call_Name_kw
    apply ld_glob inv glob holds _ plainName
    apply PySem.W.callWith_K (h₀ := X.base) inv.ok.mod.kin kept _ first (by rfl)
    have many : PA (X.suite a ((a, oe) :: pn)) [e] (tCons te tNil) := pa_cons he pa_nil (hs := first)
    apply wpAny_mono (many.run pos pins s σ H (fun vs H1 => vs = [.ref a] ∧ sp H1 Q) inv ask) _ (fun _ _ raised => raised)
    rintro us s1 ⟨vs, H1, inv1, rel, rfl, goal⟩
    refine ⟨inv1.kIn, ?_⟩
    obtain ⟨there, free, offL, offF, nocell⟩ := inv1.pin (a, oe) (List.mem_append_left _ List.mem_cons_self)
    have pin : PinOk (X.suite a ((a, oe) :: pn)).stack H1 s1 (a, oe) := by
      refine ⟨there, free, fun hm => ?_, nocell⟩
      rcases List.mem_cons.mp (inv1.stkSub a hm) with z | z
      · exact offL z
      · exact offF z
    have len : us.length = 1 := rel.length.symm
    have to := binds s1 us inv1.kIn (by rw [List.append_nil]; exact len)
    rw [List.append_nil] at to
    apply wpAny_call
    apply codeAny_mono (run_handled (k := k) (E := fun _ _ _ => False) written code S room pin inv1.env0 to rel rfl (fun room2 => walk _ _ _ Q room2 goal))
    intro r s2 told
    match r, told with
    | .error _, told => exact (show False from told).elim
    | .ok (.ret u), told => exact inv1.after told
    | .ok .next, told => exact (show False from told).elim
    | .ok .brk, told => exact (show False from told).elim
    | .ok .cont, told => exact (show False from told).elim
/-! ### which field goes with which code -/
def nodeCodes : List Str := ["invalidnode", "invalidmark", "nodetaken", "notbare", "invaliddrawing", "unknownnode"]
def nameCodes : List Str := ["invalidname", "invalidedge", "edgetaken", "invalidwebname", "nametaken", "unknownedge", "unknownweb"]
def indexCodes : List Str := ["invalidstep", "invalidcommand"]
def limitCodes : List Str := ["limitexceeded", "invalidlimit"]
def attrOf (c : Str) : Option Str :=
  if c ∈ nodeCodes then some "node" else if c ∈ nameCodes then some "name" else if c ∈ indexCodes then some "index" else if c ∈ limitCodes then some "limit"
  else if c = "invalidword" then some "position" else if c = "invalidstring" then some "value" else if c = "invaliddocument" then some "line" else none
def FieldIs (K : PySem.W.Frag) (C : Addr) (fs : List (Str × V)) (v : V) : Option Str → Prop
  | some f => PySem.W.findIn K (.ref C) f = some none ∧ fs.lookup f = some v
  | none => v = .non
theorem in_strs (c : Str) (zs : List Str) : inV (.str c) (zs.map V.str) = decide (c ∈ zs) := by
  unfold inV
  rw [List.any_map]
  induction zs with
  | nil => rfl
  | cons z r ih =>
    rw [List.any_cons, ih]
    by_cases h : z = c
    · subst h
      simp [eqV]
    · have h2 : ¬ c = z := fun e => h e.symm
      simp [eqV, h, h2]
/-- what is known of an exception in hand -/
structure ExcIs (K : PySem.W.Frag) (cls : Value) (d : Option Addr) (H : Hp) (c : Str) (v : V) : Prop where
  ex : ∃ (C dd : Addr) (fs : List (Str × V)), cls = .ref C ∧ XfC K C ∧ PySem.W.findIn K (.ref C) "code" = some none ∧ d = some dd ∧ H dd = some (.xd fs) ∧ fs.lookup ("code" : Str) = some (.str c) ∧ FieldIs K C fs v (attrOf c)
theorem ExcIs.same {K : PySem.W.Frag} {cls : Value} {d : Option Addr} {H H' : Hp} {c : Str} {v : V} (e : ExcIs K cls d H c v) (s : Same H H') : ExcIs K cls d H' c v := by
  obtain ⟨C, dd, fs, h1, h2, h3, h4, h5, h6⟩ := e.ex
  exact ⟨C, dd, fs, h1, h2, h3, h4, s _ _ h5, h6⟩
def spFieldE (K : PySem.W.Frag) (cls : Value) (d : Option Addr) : Hp → VK → Prop := fun H Q => ∃ (c : Str) (v : V), ExcIs K cls d H c v ∧ ∀ H', Same H H' → Q v H'
end Tm

/-! errors with a code and one field: how they are made -/
namespace Tm
open PySem PySem.Spec PyProof.Rows L2
/-- __init__(self, v): self.code = c; self.fld = v -/
def spErr (C : Addr) (c fld : Str) : Sp := fun vs H Q _ => ∃ (a : Addr) (v : V), vs = [.ref a, v] ∧ H a = some (exo a C none) ∧
  ∀ dx, H dx = none → dx ≠ a → Q .non (upd (upd (upd H dx (exd dx [("code", .str c)])) a (exo a C (some dx))) dx (exd dx [(fld, v), ("code", .str c)]))
/-- what stands behind the making of such an error -/
theorem made_err {C : Addr} {c fld : Str} {ta : TA} {σ : L2.St} {H : Hp} {Q : XK}
    (ask : ta σ H fun vs H1 => ∃ v, vs = [v] ∧ ∀ H3 d, Same H1 H3 → H1 d = none → H3 d = some (.xd [(fld, v), ("code", .str c)]) → Q (.ref C) (some d) H3)
    (mono : ∀ (R S : List V → Hp → Prop), (∀ vs H, R vs H → S vs H) → ta σ H R → ta σ H S) : tMkO C (spErr C c fld) [] ta σ H Q := by
  refine mono _ _ ?_ ask
  rintro vs H1 ⟨v, rfl, out⟩
  refine ⟨by show 1 ≤ 1000; decide, fun a na => ⟨a, v, rfl, upd_same, fun dx ndx nda => ⟨rfl, dx, _, ?_, upd_same, ?_, ?_⟩⟩⟩
  · rw [upd_ne (fun e => nda e.symm), upd_same]
  · rw [upd_ne nda] at ndx
    exact ndx
  · rw [upd_ne nda] at ndx
    refine out _ dx ?_ ndx upd_same
    intro b o hb
    have b1 : b ≠ dx := ne_of_none hb ndx
    have b2 : b ≠ a := ne_of_none hb na
    rw [upd_ne b1, del_ne b2, upd_ne b1, upd_ne b2, upd_ne b1, upd_ne b2]
    exact hb
end Tm

/-! errors with a code alone, made without an argument -/
namespace Tm
open PySem PySem.Spec PyProof.Rows L2
/-- __init__(self): self.code = c -/
def spErr0 (C : Addr) (c : Str) : Sp := fun vs H Q _ => ∃ a : Addr, vs = [.ref a] ∧ H a = some (exo a C none) ∧ ∀ dx, H dx = none → dx ≠ a → Q .non (upd (upd H dx (exd dx [("code", .str c)])) a (exo a C (some dx)))
section
variable {X : Cx}
/-- C(), to be raised -/
theorem pmk_bare {CX : CXT} {x : Str} {C fI : Addr} {k : Nat} {fd : FuncData} {ps : List Str} {sp : Sp} {p pos : Pos} (cls : OexC X.K C) (init : PySem.W.findIn X.K (.ref C) "__init__" = some (some (.ref fI))) (isFn : PySem.W.typeIn X.K (.ref fI) = some (.type "function"))
    (promise : FnOk X.prog X.w X.K X.mg X.base CX k fI fd ps sp) (room : Room (k + 1) X.A) (binds : Binds X.K fd ps []) (pass : Passes CX X (fun _ _ _ => False)) (glob : Gl X x) (found : X.mg x = some (.ref C)) (nodebug : (x == ("__debug__" : Str)) = false := by decide) :
    PMk X (.Call (.Name x p) [] [] pos) (tMkO C sp [] tNil) := by
  intro pins s σ H Q inv ask
  obtain ⟨_, told⟩ := ask
  obtain ⟨nm, q, names, bases, bm, sn, sub, ab, col, dd, _, _, _, _, _, isC, mro⟩ := cls.cls
  refine wpAny_Call_Name_kw (ld_glob inv glob found (PySem.W.callWith_K0 inv.kIn cls.kC ?_) nodebug)
  show wpAny _ _ (call (.ref C) []) _ _ _
  obtain ⟨hp, gens, drawn, toks, os⟩ := s
  -- the error lies behind the tuple of its arguments
  have above : hp.objs.size ≤ hp.objs.size + 1 := by omega
  have grows : ∀ b o, hp.get? b = some o → ((hp.push (PySem.W.kdv_tup [])).push (PySem.HandSPX.excO C hp.objs.size)).get? b = some o := fun b o hb => Heap.get?_push_of_some _ (Heap.get?_push_of_some _ hb)
  have there : ((hp.push (PySem.W.kdv_tup [])).push (PySem.HandSPX.excO C hp.objs.size)).get? (hp.objs.size + 1) = some (PySem.HandSPX.excO C hp.objs.size) := by heap_get
  have inv2 : Inv X pins σ (upd H (hp.objs.size + 1) (exo (hp.objs.size + 1) C none)) ⟨(hp.push (PySem.W.kdv_tup [])).push (PySem.HandSPX.excO C hp.objs.size), gens, drawn, toks, os⟩ := inv.laid (t' := toks) grows above (exo_ok there)
  have want := told (hp.objs.size + 1) (inv.hok.fresh above)
  have one : ([Value.ref (hp.objs.size + 1)] ++ []).length = ps.length := (promise.len _ _ _ _ want).symm ▸ rfl
  have run := promise.run ((X.A.under (.builtin "type.__call__" ⟨.ref C :: [], []⟩))) X.stack _ _ ⟨[Value.ref (hp.objs.size + 1)], []⟩ [Value.ref (hp.objs.size + 1)] [V.ref (hp.objs.size + 1)] _ (fun _ _ _ => False) (room.make C [] []) (inv2.env0.make C [] []) (binds _ [Value.ref (hp.objs.size + 1)] inv2.kIn one) (.cons rfl .nil) want
  refine wpAny_call (PySem.HandSPX.call_own F.excBase_ValueError (fun Y => PySem.HandSPX.refsVE_contains Y bm mro) (inv.kIn _ _ isC) (PySem.W.looks_findIn inv.kIn init) (fun self => PySem.W.bind_fn inv.kIn self isFn) (by show 0 ≤ _; omega) (codeAny_mono run ?_))
  rintro (err | flow) s' done
  · exact pass pins σ _ _ err s' inv2 done
  · cases flow with
    | ret u =>
      obtain ⟨v, H2, os2, bare2, un2, hok2, rel, isNone, d, fs, atE, atD, free, q2⟩ := done
      subst isNone
      cases s'
      exact ⟨rel, mk_end (raises_own cls.exC cls.tyC) inv above grows un2 hok2 os2 bare2 atE atD free q2⟩
    | next => exact done.elim
    | brk => exact done.elim
    | cont => exact done.elim
end
theorem made_bare {C : Addr} {c : Str} {σ : L2.St} {H : Hp} {Q : XK} (ask : ∀ H3 d, Same H H3 → H d = none → H3 d = some (.xd [("code", .str c)]) → Q (.ref C) (some d) H3) : tMkO C (spErr0 C c) [] tNil σ H Q := by
  refine ⟨by show 0 ≤ 1000; decide, fun a na => ⟨a, rfl, upd_same, fun dx ndx nda => ⟨rfl, dx, [("code", .str c)], upd_same, ?_, ?_, ?_⟩⟩⟩
  · rw [upd_ne nda, upd_same]
  · rw [upd_ne nda] at ndx
    exact ndx
  · rw [upd_ne nda] at ndx
    refine ask _ dx ?_ ndx upd_same
    intro b o hb
    have b1 : b ≠ dx := ne_of_none hb ndx
    have b2 : b ≠ a := ne_of_none hb na
    rw [upd_ne b1, del_ne b2, upd_ne b2, upd_ne b1, upd_ne b2]
    exact hb
/-- an error of the class C lies in the air, with these fields -/
def Raised (E : XK) (C : Addr) (fs : List (Str × V)) (H : Hp) : Prop := ∀ H' d, Same H H' → H d = none → H' d = some (.xd fs) → E (.ref C) (some d) H'
theorem Raised.same {E : XK} {C : Addr} {fs : List (Str × V)} {H H' : Hp} (r : Raised E C fs H) (s : Same H H') : Raised E C fs H' := fun H2 d s2 nd hd => r H2 d (s.trans s2) (s.free nd) hd
end Tm

set_option maxHeartbeats 4000000
/-! errors over LookupError: their fields stored, and how they are made -/
namespace PySem
namespace TmLE
open PySem.W PySem.Calls PyProof.Rows PySem.HandSPX Builtin Builtin.ObjectAttr
abbrev tail : List Value := [.type "LookupError", .type "Exception", .type "BaseException", .type "object"]
/-- classes of the program, then LookupError's own row -/
def mro (rs : List Addr) : List Value := rs.map Value.ref ++ tail
theorem mro_has (X : String) (rs : List Addr) : (mro rs).contains (.type X) = tail.contains (.type X) := by
  induction rs with
  | nil => rfl
  | cons r rs ih =>
    show (Value.ref r :: mro rs).contains (.type X) = _
    rw [List.contains_cons, ih]
    rfl
theorem mro_pass (self : Value) (rs : List Addr) : refuseLoop self "__setattr__" (mro rs) = pure () := by
  induction rs with
  | nil => exact F.store_LookupError.passes self
  | cons r rs ih =>
    show refuseLoop self "__setattr__" (Value.ref r :: mro rs) = _
    rw [refuseLoop_ref, ih]
variable {prog : Program} {w : World} {A : Around} {R : Result → Shared → Prop} {hp : Heap} {g : Array GenState} {d : Drawn} {t : Nat} {os : OsState}
/-- object.__setattr__(self, name, v), up to the store into the own dict -/
theorem reaches {K : W.Frag} {name : Str} {tk : Tok} {v : Value} {x C : Addr} {rs : List Addr} {ox : Obj} {od : Option Obj} {cd : ClassData} (X : K.In hp) (I : W.InstAt hp x ox C od) (isC : W.clsIn K C = some cd) (row : cd.mro = mro (C :: rs)) (free : W.findIn K (.ref C) name = some none)
    (rest : wpAny (model prog w) A.in1 (storeInOwnDict (.ref x) (.ref C) (.str name tk) name v false) (fun fin s' => match fin with | .done f => R (.ok f) s' | .again c' => c'.quiet = true ∧ codeAny (model prog w) A c' R s') (fun e s' => R (.error e) s') ⟨hp, g, d, t, os⟩) : codeAny (model prog w) A (.call (.builtin "object.__setattr__") ⟨[.ref x, .str name tk, v], []⟩) R ⟨hp, g, d, t, os⟩ := by
  have facts := F.store_object
  have isObj : W.Looks (model prog w) hp (isInstance (.ref x) (.type "object")) true := by
    refine I.type.andThen (W.looks_mroIn X ?_)
    unfold W.mroIn
    rw [isC, Option.bind_some, row, mro_has, if_neg (by show ¬ false = true; decide)]
    exact congrArg some (by decide +kernel)
  have rowOf : W.Looks (model prog w) hp (mroOf (.ref C)) (mro (C :: rs)) := row ▸ (W.looks_clsIn X isC).andThen .now
  apply codeAny_call_builtin facts.slot.plain facts.entry
  apply @W.check_slot (model prog w) _ _ ⟨hp, g, d, t, os⟩ "object.__setattr__" "object" "__setattr__" (.ref x) [.str name tk, v] [] _ facts.kind facts.split isObj (facts.args (.ref x) (.str name tk) v)
  rw [W.osa_eq, refuse_eq]
  apply wpAny_bind
  apply wpAny_bind
  apply I.type.at
  apply wpAny_bind
  apply rowOf.at
  rw [mro_pass]
  apply wpAny_pure
  apply wpAny_bind
  apply I.type.at
  apply wpAny_bind
  apply (W.looks_findIn X free).at
  apply wpAny_bind
  apply (show W.Looks (model prog w) hp (storeTaker? none) none from .now).at
  exact rest
/-- the first field: the error gets its dict -/
theorem first_field {K : W.Frag} {name : Str} {tk : Tok} {v : Value} {x C : Addr} {rs : List Addr} {fv : Array Value} {cd : ClassData} (X : K.In hp) (here : hp.get? x = some { cls := .ref C, data := .fields fv }) (isC : W.clsIn K C = some cd) (row : cd.mro = mro (C :: rs)) (dicts : cd.hasDict = true) (free : W.findIn K (.ref C) name = some none)
    (then_ : ∀ h' tk' dx, (∀ b o, b ≠ x → hp.get? b = some o → h'.get? b = some o) → hp.objs.size ≤ dx → dx ≠ x → h'.get? x = some { cls := .ref C, dict := some dx, data := .fields fv } → h'.Ns1 dx (fun y => if y = name then some v else none) → R (.ok (.ret .none)) ⟨h', g, d, tk', os⟩) : codeAny (model prog w) A (.call (.builtin "object.__setattr__") ⟨[.ref x, .str name tk, v], []⟩) R ⟨hp, g, d, t, os⟩ := by
  refine reaches (ox := { cls := .ref C, data := .fields fv }) (od := none) X ⟨here, rfl, rfl, trivial⟩ isC row free ?_
  have data : W.Looks (model prog w) hp (classData C) cd := W.looks_clsIn X isC
  have apart : hp.objs.size ≠ x := Nat.ne_of_gt (Heap.lt_size here)
  obtain ⟨nm, bs, mr, ns, qn, hd, sn, sb, ab, col, del⟩ := cd
  obtain rfl : hd = true := dicts
  unfold storeInOwnDict
  unfold ownDictForStores
  repeat (first | with_reducible refine wpAny_loadPart_at here ?_ | with_reducible refine data.at ?_ | with_reducible refine store_in_new ?empty ?stored | wp_step)
  case empty =>
    refine ⟨{ cls := .type "dict", data := .dict #[] }, #[], 0, ?_, rfl, fun e he => absurd he (by simp), fun _ => rfl⟩
    rw [Heap.get?_update_ne _ _ _ _ apart]
    exact Heap.get?_push_at rfl rfl
  case stored =>
    intro h' tk' now but
    have kept : ∀ b o, b ≠ hp.objs.size → (hp.push { cls := .type "dict", data := .dict #[] }).get? b = some o → b ≠ x → h'.get? b = some o := fun b o nb hb nx => (but.2 b nb).trans ((Heap.get?_update_ne _ _ _ _ nx).trans hb)
    refine then_ h' tk' hp.objs.size (fun b o nx hb => kept b o (Nat.ne_of_lt (Heap.lt_size hb)) (Heap.get?_push_of_some _ hb) nx) (Nat.le_refl _) apart ?_ now
    rw [but.2 x apart.symm]
    exact Heap.get?_update_self _ (Heap.get?_push_of_some _ here) rfl
/-- a further field -/
theorem next_field {K : W.Frag} {name : Str} {tk : Tok} {v : Value} {x C dx : Addr} {rs : List Addr} {fv : Array Value} {cd : ClassData} {m0 : Str → Option Value} {names : List Str} (X : K.In hp) (here : hp.get? x = some { cls := .ref C, dict := some dx, data := .fields fv }) (old : hp.Ns1 dx m0) (of_ : Within m0 names) (few : names.length ≤ 1000)
    (isC : W.clsIn K C = some cd) (row : cd.mro = mro (C :: rs)) (dicts : cd.hasDict = true) (free : W.findIn K (.ref C) name = some none)
    (then_ : ∀ h' tk', (∀ b o, b ≠ dx → hp.get? b = some o → h'.get? b = some o) → h'.Ns1 dx (fun y => if y = name then some v else m0 y) → R (.ok (.ret .none)) ⟨h', g, d, tk', os⟩) : codeAny (model prog w) A (.call (.builtin "object.__setattr__") ⟨[.ref x, .str name tk, v], []⟩) R ⟨hp, g, d, t, os⟩ := by
  obtain ⟨dict, _, _, atD, _, _⟩ := old.count of_
  refine reaches (ox := { cls := .ref C, dict := some dx, data := .fields fv }) (od := some dict) X ⟨here, rfl, rfl, atD⟩ isC row free ?_
  have data : W.Looks (model prog w) hp (classData C) cd := W.looks_clsIn X isC
  obtain ⟨nm, bs, mr, ns, qn, hd, sn, sb, ab, col, del⟩ := cd
  obtain rfl : hd = true := dicts
  unfold storeInOwnDict
  unfold ownDictForStores
  repeat (first | with_reducible refine wpAny_loadPart_at here ?_ | with_reducible refine data.at ?_ | with_reducible refine OEX.store_in_old old of_ few ?_ | wp_step)
  exact fun h' tk' now but => then_ h' tk' (fun b o nb hb => (but.2 b nb).trans hb) now
end TmLE
end PySem

set_option maxHeartbeats 4000000
/-! errors over LookupError: the rules -/
namespace Tm
open PySem PySem.Spec PyProof.Rows L2
/-- what is known of a class over LookupError -/
structure OexL (K : PySem.W.Frag) (C : Addr) : Prop where
  cls : ∃ nm q N bs rs sn sub ab col dd k0 k1 k2 k3 k5, K.lookup C = some (excClassObj nm q C N bs (TmLE.mro rs) true sn sub ab col dd k0 k1 k2 k3 k5 "LookupError.__new__")
  known : PySem.W.findIn K (.ref C) "__setattr__" = some (some (.builtin "object.__setattr__")) ∧ PySem.W.subIn K (.ref C) (.type "BaseException") = some true ∧ PySem.W.typeIn K (.ref C) = some (.type "type") ∧ PySem.W.keepIn K (.ref C) = true
theorem OexL.data {K : PySem.W.Frag} {C : Addr} (T : OexL K C) : ∃ (cd : ClassData) (rs : List Addr), PySem.W.clsIn K C = some cd ∧ cd.mro = TmLE.mro (C :: rs) ∧ cd.hasDict = true := by
  obtain ⟨nm, q, N, bs, rs, sn, sub, ab, col, dd, k0, k1, k2, k3, k5, hC⟩ := T.cls
  refine ⟨{ name := nm, bases := bs, mro := .ref C :: TmLE.mro rs, ns := N, qualname := q, hasDict := true, slotNames := sn, subclasses := sub, abstract := ab, collection := col, hasDel := false }, rs, ?_, rfl, rfl⟩
  unfold PySem.W.clsIn
  rw [hC]
section
variable {X : Cx} {pins : List (Addr × Obj)} {σ : L2.St} {H : Hp} {s : Shared} {a C dx : Addr} {f : Str} {y : V} {u : Value} {fs : List (Str × V)} {Q : Unit → Shared → Prop} {E : Value → Shared → Prop} {A : Around}
/-- where the error and its new dict are noted, the rest is as it was -/
theorem noted {o1 o2 : HO} {b : Addr} {z : HO} (at_ : H a = some (exo a C none)) (new : H dx = none) (hb : H b = some z) (ne : exo a C none ≠ z) : upd (upd H dx o1) a o2 b = some z := by
  have n1 : b ≠ a := fun e => by
    rw [e, at_] at hb
    exact ne (Option.some.inj hb)
  rw [upd_ne n1, upd_ne (ne_of_none hb new)]
  exact hb
theorem field_one (T : OexL X.K C) (I : Inv X pins σ H s) (at_ : H a = some (exo a C none)) (free : PySem.W.findIn X.K (.ref C) f = some none) (ry : L2.RelV y u)
    (then_ : ∀ dx s', H dx = none → dx ≠ a → Inv X pins σ (upd (upd H dx (exd dx [(f, y)])) a (exo a C (some dx))) s' → Q () s') : wpAny (model X.prog X.w) A (setAttr (.ref a) f u) Q E s := by
  obtain ⟨cd, rs, isC, row, dicts⟩ := T.data
  obtain ⟨t1, ho⟩ := exo_at I.hok at_
  obtain ⟨hp, g, d, t, os⟩ := s
  have inst : PySem.W.InstAt hp a { cls := .ref C, dict := none, data := .fields #[.ref t1, .none, .none, .none, .bool false, .none] } C none := ⟨ho, rfl, rfl, trivial⟩
  refine PySem.W.set_plain I.kIn inst T.known.1 ?_
  refine TmLE.first_field I.kIn ho isC row dicts free fun h' tk' dx kept far apart hx now => ?_
  have new : H dx = none := I.hok.fresh far
  have notA : ∀ {b : Addr}, H b = none → b ≠ a := fun {b} n e => by
    rw [e, at_] at n
    cases n
  have notD : ∀ {b : Addr} {o : Obj}, hp.get? b = some o → b ≠ dx := fun {b o} hb => Nat.ne_of_lt (Nat.lt_of_lt_of_le (Heap.lt_size hb) far)
  refine then_ dx _ new apart (I.un (t' := tk') ⟨?keep, ?slot, ?free, ?there, ?tups, ?frzs, ?tbls⟩ ?hok)
  case keep => exact fun b o hb n _ _ => kept b o (notA n) hb
  case slot => exact fun b o hb n _ _ => ⟨o.slots, kept b o (notA n) hb⟩
  case free =>
    intro b o hb n _
    rw [upd_ne (notA n), upd_ne (notD hb)]
    exact n
  case there =>
    intro b o hb _
    by_cases e : b = a
    · subst e
      exact ⟨_, hx⟩
    · exact ⟨o, kept b o e hb⟩
  case tups => exact fun b xs hb => noted at_ new hb exo_tup
  case frzs => exact fun b o v hb => noted at_ new hb exo_frz
  case tbls => exact fun b ps hb => ⟨#[], by rw [Array.append_empty]; exact noted at_ new hb exo_tbl⟩
  case hok =>
    intro b z hb
    by_cases e : b = a
    · subst e
      rw [upd_same] at hb
      cases hb
      exact exo_ok hx
    rw [upd_ne e] at hb
    by_cases e2 : b = dx
    · subst e2
      rw [upd_same] at hb
      cases hb
      exact exd_ok now (relO_put (fs := []) ry fun _ => True.intro)
    rw [upd_ne e2] at hb
    refine (I.hok b z hb).stay (fun c v hc hv => kept c v ?_ hv) (fun c hc => noted at_ new hc exo_own) (fun c xs hc => noted at_ new hc exo_tup)
    rcases hc with hc | hc
    · rw [hc]
      exact e
    · exact fun z => exo_own (Option.some.inj (at_.symm.trans (z ▸ hc)))
theorem field_more (T : OexL X.K C) (I : Inv X pins σ H s) (at_ : H a = some (exo a C (some dx))) (atD : H dx = some (exd dx fs)) (few : fs.length ≤ 900) (free : PySem.W.findIn X.K (.ref C) f = some none) (ry : L2.RelV y u)
    (then_ : ∀ s', Inv X pins σ (upd H dx (exd dx ((f, y) :: fs))) s' → Q () s') : wpAny (model X.prog X.w) A (setAttr (.ref a) f u) Q E s := by
  obtain ⟨cd, rs, isC, row, dicts⟩ := T.data
  obtain ⟨t1, ho⟩ := exo_at I.hok at_
  obtain ⟨mA, old, rel⟩ := exd_at I.hok atD
  have of_ := within_of rel
  obtain ⟨hp, g, d, t, os⟩ := s
  obtain ⟨od, _, _, hod, _, _⟩ := old.count of_
  refine PySem.W.set_plain I.kIn (ox := { cls := .ref C, dict := some dx, data := .fields #[.ref t1, .none, .none, .none, .bool false, .none] }) (od := some od) ⟨ho, rfl, rfl, hod⟩ T.known.1 ?_
  refine TmLE.next_field I.kIn ho old of_ (by rw [List.length_map]; omega) isC row dicts free fun h' tk' kept now => ?_
  obtain ⟨o2, es2, ep2, at2, more⟩ := id now
  exact then_ _ (I.write (t' := tk') (by rw [atD]; exact True.intro) (Or.inl rfl) kept ⟨o2, at2⟩ (exd_ok now (relO_put ry rel)))
end
/-- self.f = e, self an error over LookupError -/
def tOsL (K : PySem.W.Frag) (f : Str) (to te : TE) : TS := fun D σ H => te σ H fun y H1 => to σ H1 fun x H2 => ∃ a C : Addr, x = .ref a ∧ OexL K C ∧ PySem.W.findIn K (.ref C) f = some none ∧
  ((H2 a = some (exo a C none) ∧ ∀ q, H2 q = none → q ≠ a → D.nx σ (upd (upd H2 q (exd q [(f, y)])) a (exo a C (some q)))) ∨ ∃ (q : Addr) (fs : List (Str × V)), H2 a = some (exo a C (some q)) ∧ H2 q = some (exd q fs) ∧ fs.length ≤ 900 ∧ D.nx σ (upd H2 q (exd q ((f, y) :: fs))))
section
variable {X : Cx} {f : Str} {o e : Expr} {to te : TE} {p p' pos : Pos}
theorem ps_osL (whose : PE X o to) (what : PE X e te) (hs : swapsWith e (some (.Attribute o f p')) pos.line X.env = pure false := by rfl) : PS X (.Assign [.Attribute o f p'] e pos) (tOsL X.K f to te) := by
  constructor
  intro pins s σ H D I ask
  refine plainObj_wpAny_Assign_Attribute (thn (what.run pins s σ H _ I ask) ?_) hs
  rintro v s1 ⟨y, H1, I1, r1, ask1⟩
  refine thn (whose.run pins s1 σ H1 _ I1 ask1) ?_
  rintro u s2 ⟨x, H2, I2, r2, a, C, rfl, T, free, ⟨at_, q⟩ | ⟨dx, fs, at_, atD, few, q⟩⟩
  · obtain rfl : u = Value.ref a := r2
    exact field_one T I2 at_ free r1 fun dx s' n ne J => ⟨σ, _, J, q dx n ne⟩
  · obtain rfl : u = Value.ref a := r2
    exact field_more T I2 at_ atD few free r1 fun s' J => ⟨σ, _, J, q⟩
/-- C(e), to be raised, C over LookupError -/
theorem pmk_look {CX : CXT} {x : Str} {C fI : Addr} {k : Nat} {fd : FuncData} {ps : List Str} {sp : Sp} {ta : TA} (T : OexL X.K C) (init : PySem.W.findIn X.K (.ref C) "__init__" = some (some (.ref fI))) (isFn : PySem.W.typeIn X.K (.ref fI) = some (.type "function"))
    (promise : FnOk X.prog X.w X.K X.mg X.base CX k fI fd ps sp) (room : Room (k + 1) X.A) (binds : Binds X.K fd ps []) (pass : Passes CX X (fun _ _ _ => False)) (glob : Gl X x) (found : X.mg x = some (.ref C)) (arg : PA X [e] ta) (nodebug : (x == ("__debug__" : Str)) = false := by decide)
    (plain : starEach [e] X.env = (false, eval e X.env) :: starEach [] X.env := by rfl) : PMk X (.Call (.Name x p) [e] [] pos) (tMkO C sp [] ta) := by
  intro pins s σ H Q inv ask
  obtain ⟨nm, q, N, bs, rs, sn, sub, ab, col, dd, k0, k1, k2, k3, k5, isC⟩ := T.cls
  refine wpAny_Call_Name_kw (ld_glob inv glob found (PySem.W.callWith_K (h₀ := X.base) inv.ok.mod.kin T.known.2.2.2 (thn (arg.run pos pins s σ H _ inv ask) ?_) plain (by rfl)) nodebug)
  rintro held ⟨hp, gens, drawn, toks, os⟩ ⟨given, H1, inv1, rel, few, told⟩
  refine ⟨inv1.kIn, ?_⟩
  show wpAny _ _ (call (.ref C) held) _ _ _
  have above : hp.objs.size ≤ hp.objs.size + 1 := by omega
  have grows : ∀ b o, hp.get? b = some o → ((hp.push (PySem.W.kdv_tup held)).push (PySem.HandSPX.excO C hp.objs.size)).get? b = some o := fun b o hb => Heap.get?_push_of_some _ (Heap.get?_push_of_some _ hb)
  have there : ((hp.push (PySem.W.kdv_tup held)).push (PySem.HandSPX.excO C hp.objs.size)).get? (hp.objs.size + 1) = some (PySem.HandSPX.excO C hp.objs.size) := by heap_get
  have inv2 : Inv X pins σ (upd H1 (hp.objs.size + 1) (exo (hp.objs.size + 1) C none)) ⟨(hp.push (PySem.W.kdv_tup held)).push (PySem.HandSPX.excO C hp.objs.size), gens, drawn, toks, os⟩ := inv1.laid (t' := toks) grows above (exo_ok there)
  have want := told (hp.objs.size + 1) (inv1.hok.fresh above)
  rw [List.append_nil] at want
  have rel2 : Vals (V.ref (hp.objs.size + 1) :: given) (Value.ref (hp.objs.size + 1) :: held) := .cons rfl rel
  have len : ((Value.ref (hp.objs.size + 1) :: held) ++ []).length = ps.length := by
    rw [List.append_nil, ← rel2.length]
    exact promise.len _ _ _ _ want
  have bound := binds _ (Value.ref (hp.objs.size + 1) :: held) inv2.kIn len
  rw [List.append_nil] at bound
  have run := promise.run (X.A.under (.builtin "type.__call__" ⟨.ref C :: held, []⟩)) X.stack _ _ ⟨Value.ref (hp.objs.size + 1) :: held, []⟩ _ _ _ (fun _ _ _ => False) (room.make C held []) (inv2.env0.make C held []) bound rel2 want
  have short : held.length ≤ sizeLine := by
    rw [← rel.length, sizeLine_eq]
    omega
  refine wpAny_call (PySem.HandSPX.call_own F.excBase_LookupError (fun Y => TmLE.mro_has Y rs) (inv1.kIn _ _ isC) (PySem.W.looks_findIn inv1.kIn init) (fun self => PySem.W.bind_fn inv1.kIn self isFn) short (codeAny_mono run ?_))
  rintro (err | flow) s' done
  · exact pass pins σ _ _ err s' inv2 done
  · cases flow with
    | ret u =>
      obtain ⟨v, H2, os2, bare2, un2, hok2, rel3, isNone, d, fs, atE, atD, free, q2⟩ := done
      subst isNone
      cases s'
      exact ⟨rel3, mk_end (raises_own T.known.2.1 T.known.2.2.1) inv1 above grows un2 hok2 os2 bare2 atE atD free q2⟩
    | next => exact done.elim
    | brk => exact done.elim
    | cont => exact done.elim
end
end Tm

/-! name = {.. for .. in ..} on one row -/
namespace Tm
open PySem PySem.Spec PyProof.Rows L2
theorem sw_dict {kx vx : Expr} {gs : List Comprehension} {scope : Scope} {pos py : Pos} {y : Str} {row : Nat} {env : Env} (fn : env.scope.kind = .function) (own : env.scope.names.lookup y = some .local) (one : (py.line == pos.line) = true) (other : (scope.names.any fun (n, k) => n == y && (k == .local || k == .cell)) = false) :
    swapsWith (.DictComp kx vx gs scope pos) (some (.Name y py)) row env = pure true := by
  have isLocal : env.kindOf y = some .local := own
  have inFn : env.blockKind = .function := by
    unfold Env.blockKind
    rw [fn]
    rfl
  simp only [swapsWith, inFn, isLocal, other, Expr.pos, one]
  rfl
section
variable {X : Cx}
theorem ps_setDc {i : Nat} {y : Str} {kx vx tg iter : Expr} {ifs : List Expr} {scope : Scope} {own : List (Str × Nat)} {pos py spos : Pos} {wi : TI} {g : TG} {tt : TT} {tk tv : TE} (calm : X.calm = true) (nodup : X.N.Nodup) (slot : X.N[i]? = some y) (isLocal : X.env.scope.names.lookup y = some .local)
    (sw : swapsWith (.DictComp kx vx [⟨tg, iter, ifs, 0⟩] scope pos) (some (.Name y py)) spos.line X.env = pure true) (walk : PI X tg iter wi) (ok : BlkOk X.N X.env.scope scope own)
    (target : ∀ (s : Shared) (H : Hp) (C : Addr) (cl : List (Str × Addr)) (fp : List Addr), PG (X.blk s H scope (compEnvC scope cl C X.env) fp) tg g) (tests : ∀ (s : Shared) (H : Hp) (C : Addr) (cl : List (Str × Addr)) (fp : List Addr), PTs (X.blk s H scope (compEnvC scope cl C X.env) fp) ifs tt)
    (keys : ∀ (s : Shared) (H : Hp) (C : Addr) (cl : List (Str × Addr)) (fp : List Addr), PE (X.blk s H scope (compEnvC scope cl C X.env) fp) kx tk) (vals : ∀ (s : Shared) (H : Hp) (C : Addr) (cl : List (Str × Addr)) (fp : List Addr), PE (X.blk s H scope (compEnvC scope cl C X.env) fp) vx tv)
    (plain : ∀ x, foldedSetIterable iter X.env x = pure x := by intro _; rfl) : PS X (.Assign [.Name y py] (.DictComp kx vx [⟨tg, iter, ifs, 0⟩] scope pos) spos) (tAsg (tDc wi g tt tk tv (own.map (·.2))) (gName i)) := by
  constructor
  intro pins s σ H D I ask
  have ask : tDc wi g tt tk tv (own.map (·.2)) σ H (fun x H1 => gName i x σ H1 D.nx) := ask
  rw [exec_Assign_Name_used _ _ _ _ sw]
  refine wpAny_bind (wpAny_standAt (wpAny_bind (wpAny_bind (thn (dc_core (use := some (assign (.Name y py) X.env)) (Qf := fun _ s' => SP X pins D .next s') calm nodup I walk ok target tests keys vals plain ask ?stored) ?after))))
  case after => exact fun _ s' done => wpAny_pure (wpAny_pure done)
  case stored =>
    rintro L C s' m H' I' told ns ⟨f0, f1, f2, f3, f4, f5⟩
    apply wpAny_assign_Name
    refine store_ok2 (v := V.ref L) I' nodup slot (Or.inl isLocal) rfl ?_ (Or.inr isLocal)
    rintro s2 I2 ⟨a, but, which⟩
    have apart : C ≠ a := by
      rcases which with e | e
      · rw [e]
        exact f1
      · exact fun z => f4 y a e z.symm
    exact ⟨m, ns.sameBut but apart, fun h3 but3 => ⟨_, H', I2.turned (t' := s2.toks) (fun b o hb e => (but3.2 b hb).trans e) f0 f1 f3 f4 f5, told⟩⟩
end
end Tm

/-! webs cut and contracted -/
namespace Tm
open PySem PySem.Spec PyProof.Rows L2
/-- what a walked block asks, its dict at hand -/
theorem dc_at {J : It} {n : Nat} {G : Hp → Prop} {Y : Nat → Hp → V → Hp → Prop} (w : Walk J n G Y) {H1 : Hp} {R : Hp → Prop} {T : V → Hp → (Hp → Prop) → Prop} (Pv : Nat → Hp → Prop) (start : Pv 0 H1) (hG : ∀ i H, i ≤ n → Pv i H → G H)
    (turn : ∀ i x H H', i < n → Pv i H → Y i H x H' → T x H' (Pv (i + 1))) (done : ∀ H, Pv n H → R H) : ∃ W : Nat → Nat → Hp → Prop, (∃ m, W 0 m H1) ∧ ∀ i m H, W i m H → (J.stop i H ∧ R H) ∨ (J.go i H ∧ ∃ Nx : Hp → Prop, (∀ H', Nx H' → ∃ m', m' < m ∧ W (i + 1) m' H') ∧ ∀ x H', J.yld i H x H' → T x H' Nx) := by
  refine ⟨fun i m H => i + m = n ∧ Pv i H, ⟨n, Nat.zero_add n, start⟩, ?_⟩
  rintro i m H ⟨sum, here⟩
  have g0 := hG i H (by omega) here
  cases m with
  | zero =>
    have last : i = n := sum
    subst last
    exact Or.inl ⟨w.stops H g0, done H here⟩
  | succ k => exact Or.inr ⟨w.goes i H (by omega) g0, Pv (i + 1), fun H' p => ⟨k, Nat.lt_succ_self k, by omega, p⟩, fun x H' y => turn i x H H' (by omega) here (w.yields i H x H' (by omega) g0 y)⟩
theorem nodup_few {α : Type} [DecidableEq α] : ∀ (l m : List α), l.Nodup → (∀ x ∈ l, x ∈ m) → l.length ≤ m.length
  | [], _, _, _ => Nat.zero_le _
  | x :: r, m, nd, sub => by
    have hx := sub x List.mem_cons_self
    have nd2 := List.nodup_cons.mp nd
    have i := nodup_few r (m.erase x) nd2.2 fun y hy => by
      have ne : y ≠ x := fun e => nd2.1 (e ▸ hy)
      exact (List.mem_erase_of_ne ne).mpr (sub y (List.mem_cons_of_mem _ hy))
    rw [List.length_erase_of_mem hx] at i
    have pos := List.length_pos_of_mem hx
    rw [List.length_cons]
    omega
theorem nodes_few {ms : List (Int × Int)} (nd : (ms.map (·.1)).Nodup) (node : ∀ m ∈ ms, 0 ≤ m.1 ∧ m.1 < 12) : ms.length ≤ 12 := by
  have h := nodup_few (ms.map (·.1)) twelve nd fun n hn => by
    obtain ⟨m, hm, rfl⟩ := List.mem_map.mp hn
    have b := node m hm
    have e : m.1 = 0 ∨ m.1 = 1 ∨ m.1 = 2 ∨ m.1 = 3 ∨ m.1 = 4 ∨ m.1 = 5 ∨ m.1 = 6 ∨ m.1 = 7 ∨ m.1 = 8 ∨ m.1 = 9 ∨ m.1 = 10 ∨ m.1 = 11 := by omega
    unfold twelve
    rcases e with e | e | e | e | e | e | e | e | e | e | e | e <;> rw [e] <;> decide
  rw [List.length_map] at h
  exact h
theorem edges_few {es : List Edg} (nd : (es.map (·.letter)).Nodup) (name : ∀ e ∈ es, e.letter ∈ alpha) : es.length ≤ 24 := by
  have h := nodup_few (es.map (·.letter)) alpha nd fun c hc => by
    obtain ⟨e, he, rfl⟩ := List.mem_map.mp hc
    exact name e he
  rw [List.length_map] at h
  exact h
theorem rise_nodupI {ns : List Int} (h : ns.Pairwise (· < ·)) : ns.Nodup := h.imp fun hab e => by rw [e] at hab; exact Int.lt_irrefl _ hab
theorem rise_nodupN {ns : List Nat} (h : ns.Pairwise (· < ·)) : ns.Nodup := h.imp fun hab e => by rw [e] at hab; exact Nat.lt_irrefl _ hab
theorem before_ne {es : List Edg} (nd : (es.map (·.letter)).Nodup) {j : Nat} (hj : j < es.length) {e : Edg} (he : e ∈ es.take j) (eq : e.letter = es[j].letter) : False := by
  obtain ⟨i, hi, ei⟩ := List.mem_iff_getElem.mp he
  rw [List.length_take] at hi
  rw [List.getElem_take] at ei
  have apart := List.pairwise_iff_getElem.mp nd i j (by rw [List.length_map]; omega) (by rw [List.length_map]; exact hj) (by omega)
  rw [List.getElem_map, List.getElem_map, ei] at apart
  exact apart eq
theorem filter_take {α : Type} (p : α → Bool) {l : List α} {j : Nat} (hj : j < l.length) : (l.take (j + 1)).filter p = (l.take j).filter p ++ (if p l[j] = true then [l[j]] else []) := by
  rw [List.take_succ_eq_append_getElem hj, List.filter_append]
  congr 1
  cases e : p l[j] <;> simp [e]
theorem letters_ne {c d : Nat} (h : ¬ c = d) : (!decide (V.str (txt [c]) = V.str (txt [d]))) = true := by
  rw [decide_eq_false (fun z => h (List.head_eq_of_cons_eq (txt_inj (V.str.inj z))))]
  rfl
theorem ne_no {a b : V} (h : a = b) : (!decide (a = b)) = false := by rw [decide_eq_true h]; rfl
theorem RawOk.marksOk {H : Hp} {ms : List (Int × Int)} {es : List Edg} (r : RawOk H ms es) : MarksOk ms := by
  have nd := rise_nodupI r.rise
  exact ⟨nd, by have := nodes_few nd r.node; omega, r.node, r.mark⟩
theorem RawOk.edgesOk {H : Hp} {ms : List (Int × Int)} {es : List Edg} (r : RawOk H ms es) : EdgesOk H ms es := by
  have nd := rise_nodupN r.risE
  exact ⟨nd, by have := edges_few nd r.name; omega, r.name, fun e he => ⟨r.pair e he, Int.ne_of_lt (r.less e he), r.ends e he⟩⟩
/-- a row more in the dict of the ends -/
theorem ends_put {l : List Edg} {e : Edg} (h : e.letter ∉ l.map (·.letter)) : putK (endsK l) (Sum.inr (txt [e.letter])) (.ref e.pair) = endsK (l ++ [e]) := by
  have fresh : (Sum.inr (txt [e.letter]) : Key) ∉ (endsK l).map (·.1) := fun z => by
    unfold endsK at z
    rw [List.map_map] at z
    obtain ⟨e2, h2, eq⟩ := List.mem_map.mp z
    have eq2 : e2.letter = e.letter := List.head_eq_of_cons_eq (txt_inj (Sum.inr.inj eq))
    exact h (eq2 ▸ List.mem_map.mpr ⟨e2, h2, rfl⟩)
  rw [putK_new _ (valV_fresh fresh)]
  unfold endsK
  rw [List.map_append]
  rfl
theorem marks_put {l : List (Int × Int)} {m : Int × Int} (h : m.1 ∉ l.map (·.1)) : putK (marksK l) (Sum.inl m.1) (.int m.2) = marksK (l ++ [m]) := by
  have fresh : (Sum.inl m.1 : Key) ∉ (marksK l).map (·.1) := fun z => by
    unfold marksK at z
    rw [List.map_map] at z
    obtain ⟨m2, h2, eq⟩ := List.mem_map.mp z
    have eq2 : m2.1 = m.1 := Sum.inl.inj eq
    exact h (eq2 ▸ List.mem_map.mpr ⟨m2, h2, rfl⟩)
  rw [putK_new _ (valV_fresh fresh)]
  unfold marksK
  rw [List.map_append]
  rfl
theorem no_end {es : List Edg} {z : List Nat} (h : ∀ e ∈ es, [e.letter] ≠ z) : valV (endsK es) (Sum.inr (txt z)) = none := by
  apply valV_fresh
  intro m
  unfold endsK at m
  rw [List.map_map] at m
  obtain ⟨e, he, eq⟩ := List.mem_map.mp m
  exact h e he (txt_inj (Sum.inr.inj eq))
/-- the name of an edge that is unknown -/
def badE (z : List Nat) : List (Str × V) := [("name", .str (txt z)), ("code", .str "unknownedge")]
def spChkDE (CU C : Addr) : Sp := fun vs H Q E => ∃ (x : Addr) (z : List Nat) (ms : List (Int × Int)) (es : List Edg), vs = [.ref x, .str (txt z)] ∧ WebAt C H x ms es ∧ ((∃ e ∈ es, z = [e.letter]) → Q .non H) ∧ ((∀ e ∈ es, [e.letter] ≠ z) → Raised E CU (badE z) H)
/-- without the edge of this letter -/
def without (c : Nat) (ts : List (Nat × Int × Int)) : List (Nat × Int × Int) := ts.filter fun t => decide (t.1 ≠ c)
def spCut (CU C : Addr) : Sp := fun vs H Q E => ∃ (x : Addr) (z : List Nat) (ms : List (Int × Int)) (es : List Edg), vs = [.ref x, .str (txt z)] ∧ WebAt C H x ms es ∧
  (∀ e ∈ es, z = [e.letter] → ∀ H' y ms' es', Same H H' → WebAt C H' y ms' es' → ms'.Perm ms → (es'.map tri).Perm (without e.letter (es.map tri)) → Q (.ref y) H') ∧ ((∀ e ∈ es, [e.letter] ≠ z) → Raised E CU (badE z) H)
/-- g drawn to l -/
def drawn (l g n : Int) : Int := if n = g then l else n
def cms (l g v : Int) (ms : List (Int × Int)) : List (Int × Int) := (ms.filter fun m => decide (m.1 ≠ g)).map fun m => if m.1 = l then (m.1, v) else m
def keepT (l g : Int) (t : Nat × Int × Int) : Bool := decide (¬ (t.2.1 = l ∧ t.2.2 = g))
def dtri (l g : Int) (t : Nat × Int × Int) : Nat × Int × Int := (t.1, drawn l g t.2.1, drawn l g t.2.2)
def mmT (t : Nat × Int × Int) : Nat × Int × Int := (t.1, min t.2.1 t.2.2, max t.2.1 t.2.2)
def ctri (l g : Int) (ts : List (Nat × Int × Int)) : List (Nat × Int × Int) := ((ts.filter (keepT l g)).map (dtri l g)).map mmT
def spContr (CU C : Addr) : Sp := fun vs H Q E => ∃ (x : Addr) (z : List Nat) (ms : List (Int × Int)) (es : List Edg), vs = [.ref x, .str (txt z)] ∧ WebAt C H x ms es ∧
  (∀ e ∈ es, ∀ kl kg : Int, z = [e.letter] → (e.lo, kl) ∈ ms → (e.hi, kg) ∈ ms → ∀ H' y ms' es', Same H H' → WebAt C H' y ms' es' → ms'.Perm (cms e.lo e.hi ((kl + kg) % 2) ms) → (es'.map tri).Perm (ctri e.lo e.hi (es.map tri)) → Q (.ref y) H') ∧ ((∀ e ∈ es, [e.letter] ≠ z) → Raised E CU (badE z) H)
def spLCut : Sp := fun vs H Q _ => ∃ (t : Addr) (e : Edg) (ms : List (Int × Int)) (es : List Edg), vs = [.ref t, .str (txt [e.letter])] ∧ RawG H t ms es ∧ e ∈ es ∧
  ∀ H' t' es', Same H H' → RawG H' t' ms es' → (es'.map tri).Perm (without e.letter (es.map tri)) → Q (.ref t') H'
def spLCon : Sp := fun vs H Q _ => ∃ (t : Addr) (e : Edg) (kl kg : Int) (ms : List (Int × Int)) (es : List Edg), vs = [.ref t, .str (txt [e.letter])] ∧ RawG H t ms es ∧ e ∈ es ∧ (e.lo, kl) ∈ ms ∧ (e.hi, kg) ∈ ms ∧
  ∀ H' t' ms' es', Same H H' → RawG H' t' ms' es' → ms'.Perm (cms e.lo e.hi ((kl + kg) % 2) ms) → (es'.map tri).Perm (ctri e.lo e.hi (es.map tri)) → Q (.ref t') H'
theorem made_tri {ms ms' : List (Int × Int)} {es es' : List Edg} (m : Made ms ms' es es') (less : ∀ e ∈ es, e.lo < e.hi) : (es'.map tri).Perm (es.map tri) := by
  have e : (es.map fun e => (e.letter, min e.lo e.hi, max e.lo e.hi)) = es.map tri := List.map_congr_left fun e he => by
    have := less e he
    show (e.letter, min e.lo e.hi, max e.lo e.hi) = (e.letter, e.lo, e.hi)
    rw [Int.min_eq_left (by omega), Int.max_eq_right (by omega)]
  rw [← e]
  exact m.2
theorem marks_set {ms : List (Int × Int)} {l v : Int} (h : l ∈ ms.map (·.1)) : putK (marksK ms) (Sum.inl l) (.int v) = marksK (ms.map fun m => if m.1 = l then (m.1, v) else m) := by
  have there : ((marksK ms).any fun kv => decide (kv.1 = (Sum.inl l : Key))) = true := by
    obtain ⟨m, hm, e⟩ := List.mem_map.mp h
    refine List.any_eq_true.mpr ⟨(Sum.inl m.1, .int m.2), List.mem_map.mpr ⟨m, hm, rfl⟩, decide_eq_true ?_⟩
    show (Sum.inl m.1 : Key) = Sum.inl l
    rw [e]
  unfold putK
  rw [if_pos there]
  unfold marksK
  rw [List.map_map, List.map_map]
  apply List.map_congr_left
  intro m _
  show (if (Sum.inl m.1 : Key) = Sum.inl l then ((Sum.inl m.1 : Key), V.int v) else (Sum.inl m.1, V.int m.2)) = (Sum.inl (if m.1 = l then (m.1, v) else m).1, V.int (if m.1 = l then (m.1, v) else m).2)
  by_cases e : m.1 = l
  · rw [if_pos (congrArg Sum.inl e), if_pos e]
  · rw [if_neg (fun z => e (Sum.inl.inj z)), if_neg e]
theorem cms_keys (l g v : Int) (ms : List (Int × Int)) : (cms l g v ms).map (·.1) = (ms.map (·.1)).filter fun n => decide (n ≠ g) := by
  unfold cms
  rw [List.map_map, List.filter_map]
  apply List.map_congr_left
  intro m _
  show (if m.1 = l then (m.1, v) else m).1 = m.1
  by_cases e : m.1 = l
  · rw [if_pos e]
  · rw [if_neg e]
theorem cms_ok {l g v : Int} {ms : List (Int × Int)} (ok : MarksOk ms) (hv : v = 0 ∨ v = 1) : MarksOk (cms l g v ms) := by
  obtain ⟨nd, few, node, mark⟩ := ok
  have mem : ∀ m ∈ cms l g v ms, ∃ m0 ∈ ms, m.1 = m0.1 ∧ (m.2 = v ∨ m.2 = m0.2) := by
    intro m hm
    obtain ⟨m0, h0, rfl⟩ := List.mem_map.mp hm
    refine ⟨m0, (List.mem_filter.mp h0).1, ?_⟩
    by_cases e : m0.1 = l
    · rw [if_pos e]
      exact ⟨rfl, .inl rfl⟩
    · rw [if_neg e]
      exact ⟨rfl, .inr rfl⟩
  refine ⟨by rw [cms_keys]; exact nd.filter _, ?_, ?_, ?_⟩
  · unfold cms
    rw [List.length_map]
    exact Nat.lt_of_le_of_lt (List.length_filter_le _ _) few
  · intro m hm
    obtain ⟨m0, h0, e, _⟩ := mem m hm
    rw [e]
    exact node m0 h0
  · intro m hm
    obtain ⟨m0, h0, _, e | e⟩ := mem m hm
    · rw [e]
      exact hv
    · rw [e]
      exact mark m0 h0
/-- the edges behind the contraction are edges -/
theorem con_ok {H : Hp} {l g v : Int} {ms : List (Int × Int)} {es es1 : List Edg} (lt : l < g) (hl : l ∈ ms.map (·.1)) (nd : (es.map (·.letter)).Nodup) (few : es.length < 64) (name : ∀ e ∈ es, e.letter ∈ alpha) (less : ∀ e ∈ es, e.lo < e.hi) (ends : ∀ e ∈ es, e.lo ∈ ms.map (·.1) ∧ e.hi ∈ ms.map (·.1))
    (is : es1.map tri = ((es.map tri).filter (keepT l g)).map (dtri l g)) (at_ : ∀ e ∈ es1, H e.pair = some (.tup [.int e.lo, .int e.hi])) : EdgesOk H (cms l g v ms) es1 := by
  have from_ : ∀ e1 ∈ es1, ∃ e ∈ es, keepT l g (tri e) = true ∧ e1.letter = e.letter ∧ e1.lo = drawn l g e.lo ∧ e1.hi = drawn l g e.hi := by
    intro e1 h1
    have m : tri e1 ∈ ((es.map tri).filter (keepT l g)).map (dtri l g) := is ▸ List.mem_map.mpr ⟨e1, h1, rfl⟩
    obtain ⟨t, ht, eq⟩ := List.mem_map.mp m
    obtain ⟨ht, hk⟩ := List.mem_filter.mp ht
    obtain ⟨e, he, rfl⟩ := List.mem_map.mp ht
    have q1 : (tri e1).1 = (dtri l g (tri e)).1 := by rw [eq]
    have q2 : (tri e1).2.1 = (dtri l g (tri e)).2.1 := by rw [eq]
    have q3 : (tri e1).2.2 = (dtri l g (tri e)).2.2 := by rw [eq]
    exact ⟨e, he, hk, q1, q2, q3⟩
  have letters : es1.map (·.letter) = ((es.map tri).filter (keepT l g)).map (·.1) := by
    have q := congrArg (List.map (·.1)) is
    rw [List.map_map, List.map_map] at q
    exact q
  have key : ∀ n, n ∈ ms.map (·.1) → drawn l g n ∈ (cms l g v ms).map (·.1) := by
    intro n hn
    rw [cms_keys]
    unfold drawn
    by_cases e : n = g
    · rw [if_pos e]
      exact List.mem_filter.mpr ⟨hl, decide_eq_true (by omega)⟩
    · rw [if_neg e]
      exact List.mem_filter.mpr ⟨hn, decide_eq_true e⟩
  refine ⟨?_, ?_, ?_, fun e1 h1 => ?_⟩
  · rw [letters]
    have nd2 : ((es.map tri).map (·.1)).Nodup := by rw [List.map_map]; exact nd
    exact (List.filter_sublist.map _).nodup nd2
  · have q := congrArg List.length letters
    rw [List.length_map, List.length_map] at q
    rw [q]
    have q2 := List.length_filter_le (keepT l g) (es.map tri)
    rw [List.length_map] at q2
    omega
  · intro e1 h1
    obtain ⟨e, he, _, eq, _⟩ := from_ e1 h1
    rw [eq]
    exact name e he
  · obtain ⟨e, he, hk, _, e1l, e1h⟩ := from_ e1 h1
    refine ⟨at_ e1 h1, ?_, ?_, ?_⟩
    · rw [e1l, e1h]
      have q1 := less e he
      have q2 : ¬ (e.lo = l ∧ e.hi = g) := of_decide_eq_true hk
      unfold drawn
      by_cases c1 : e.lo = g
      · rw [if_pos c1, if_neg (by omega)]
        omega
      · rw [if_neg c1]
        by_cases c2 : e.hi = g
        · rw [if_pos c2]
          exact fun z => q2 ⟨z, c2⟩
        · rw [if_neg c2]
          omega
    · rw [e1l]
      exact key _ (ends e he).1
    · rw [e1h]
      exact key _ (ends e he).2
theorem drawn_eq {l g a b : Int} (lt : l < g) (ab : a < b) : drawn l g a = drawn l g b ↔ (a = l ∧ b = g) := by
  unfold drawn
  by_cases c1 : a = g
  · rw [if_pos c1, if_neg (by omega)]
    constructor
    · intro z
      omega
    · intro z
      omega
  · rw [if_neg c1]
    by_cases c2 : b = g
    · rw [if_pos c2]
      exact ⟨fun z => ⟨z, c2⟩, fun z => z.1⟩
    · rw [if_neg c2]
      constructor
      · intro z
        omega
      · intro z
        exact absurd z.2 c2
/-- the same, each pair rising -/
theorem con_ok2 {H : Hp} {l g v : Int} {ms : List (Int × Int)} {es es2 : List Edg} (lt : l < g) (hl : l ∈ ms.map (·.1)) (nd : (es.map (·.letter)).Nodup) (few : es.length < 64) (name : ∀ e ∈ es, e.letter ∈ alpha) (less : ∀ e ∈ es, e.lo < e.hi) (ends : ∀ e ∈ es, e.lo ∈ ms.map (·.1) ∧ e.hi ∈ ms.map (·.1))
    (is : es2.map tri = ctri l g (es.map tri)) (at_ : ∀ e ∈ es2, H e.pair = some (.tup [.int e.lo, .int e.hi])) : EdgesOk H (cms l g v ms) es2 ∧ ∀ e ∈ es2, e.lo < e.hi := by
  have from_ : ∀ e2 ∈ es2, ∃ e ∈ es, keepT l g (tri e) = true ∧ e2.letter = e.letter ∧ e2.lo = min (drawn l g e.lo) (drawn l g e.hi) ∧ e2.hi = max (drawn l g e.lo) (drawn l g e.hi) := by
    intro e2 h2
    have m : tri e2 ∈ ctri l g (es.map tri) := is ▸ List.mem_map.mpr ⟨e2, h2, rfl⟩
    obtain ⟨t1, ht1, eq1⟩ := List.mem_map.mp m
    obtain ⟨t, ht, rfl⟩ := List.mem_map.mp ht1
    obtain ⟨ht, hk⟩ := List.mem_filter.mp ht
    obtain ⟨e, he, rfl⟩ := List.mem_map.mp ht
    have q1 : (tri e2).1 = (mmT (dtri l g (tri e))).1 := by rw [eq1]
    have q2 : (tri e2).2.1 = (mmT (dtri l g (tri e))).2.1 := by rw [eq1]
    have q3 : (tri e2).2.2 = (mmT (dtri l g (tri e))).2.2 := by rw [eq1]
    exact ⟨e, he, hk, q1, q2, q3⟩
  have letters : es2.map (·.letter) = ((es.map tri).filter (keepT l g)).map (·.1) := by
    have q := congrArg (List.map (·.1)) is
    unfold ctri at q
    rw [List.map_map, List.map_map, List.map_map] at q
    exact q
  have key : ∀ n, n ∈ ms.map (·.1) → drawn l g n ∈ (cms l g v ms).map (·.1) := by
    intro n hn
    rw [cms_keys]
    unfold drawn
    by_cases e : n = g
    · rw [if_pos e]
      exact List.mem_filter.mpr ⟨hl, decide_eq_true (by omega)⟩
    · rw [if_neg e]
      exact List.mem_filter.mpr ⟨hn, decide_eq_true e⟩
  have both : ∀ e ∈ es, keepT l g (tri e) = true → drawn l g e.lo ≠ drawn l g e.hi := fun e he hk z => (of_decide_eq_true hk) ((drawn_eq lt (less e he)).mp z)
  have pick : ∀ a b : Int, a ∈ (cms l g v ms).map (·.1) → b ∈ (cms l g v ms).map (·.1) → min a b ∈ (cms l g v ms).map (·.1) ∧ max a b ∈ (cms l g v ms).map (·.1) := by
    intro a b ha hb
    rcases Int.le_total a b with h | h
    · rw [Int.min_eq_left h, Int.max_eq_right h]
      exact ⟨ha, hb⟩
    · rw [Int.min_eq_right h, Int.max_eq_left h]
      exact ⟨hb, ha⟩
  refine ⟨⟨?_, ?_, ?_, fun e2 h2 => ?_⟩, fun e2 h2 => ?_⟩
  · rw [letters]
    have nd2 : ((es.map tri).map (·.1)).Nodup := by rw [List.map_map]; exact nd
    exact (List.filter_sublist.map _).nodup nd2
  · have q := congrArg List.length letters
    rw [List.length_map, List.length_map] at q
    rw [q]
    have q2 := List.length_filter_le (keepT l g) (es.map tri)
    rw [List.length_map] at q2
    omega
  · intro e2 h2
    obtain ⟨e, he, _, eq, _⟩ := from_ e2 h2
    rw [eq]
    exact name e he
  · obtain ⟨e, he, hk, _, el, eh⟩ := from_ e2 h2
    have ne := both e he hk
    have p := pick _ _ (key _ (ends e he).1) (key _ (ends e he).2)
    refine ⟨at_ e2 h2, ?_, ?_, ?_⟩
    · rw [el, eh]
      omega
    · rw [el]
      exact p.1
    · rw [eh]
      exact p.2
  · obtain ⟨e, he, hk, _, el, eh⟩ := from_ e2 h2
    have ne := both e he hk
    rw [el, eh]
    omega
theorem two_sorted {up : List Int} {i j : Int} (perm : up.Perm [i, j]) (rise : up.Pairwise (· ≤ ·)) : up = [min i j, max i j] := by
  have len : up.length = 2 := perm.length_eq
  match up, len with
  | [a, b], _ =>
    have le : a ≤ b := (List.pairwise_cons.mp rise).1 b List.mem_cons_self
    have ma : a ∈ [i, j] := perm.mem_iff.mp List.mem_cons_self
    have mi : i ∈ [a, b] := perm.mem_iff.mpr List.mem_cons_self
    have mj : j ∈ [a, b] := perm.mem_iff.mpr (List.mem_cons_of_mem _ List.mem_cons_self)
    have mb : b ∈ [i, j] := perm.mem_iff.mp (List.mem_cons_of_mem _ List.mem_cons_self)
    simp only [List.mem_cons, List.not_mem_nil, or_false] at ma mi mj mb
    have e1 : a = min i j := by omega
    have e2 : b = max i j := by omega
    rw [e1, e2]
theorem ctri_snoc (l g : Int) (ts : List (Nat × Int × Int)) (t : Nat × Int × Int) : ctri l g (ts ++ [t]) = ctri l g ts ++ (if keepT l g t = true then [mmT (dtri l g t)] else []) := by
  unfold ctri
  rw [List.filter_append, List.map_append, List.map_append]
  congr 1
  cases e : keepT l g t <;> simp [e]
theorem ctri_perm {l g : Int} {ts us : List (Nat × Int × Int)} (p : ts.Perm us) : (ctri l g ts).Perm (ctri l g us) := ((p.filter _).map _).map _
theorem made_con {ms ms' : List (Int × Int)} {es es1 es' : List Edg} {l g : Int} (m : Made ms ms' es1 es') (is : es1.map tri = ((es.map tri).filter (keepT l g)).map (dtri l g)) : (es'.map tri).Perm (ctri l g (es.map tri)) := by
  have e : (es1.map fun e => (e.letter, min e.lo e.hi, max e.lo e.hi)) = (es1.map tri).map mmT := by rw [List.map_map]; rfl
  have p := m.2
  rw [e, is] at p
  exact p
theorem before_neM {ms : List (Int × Int)} (nd : (ms.map (·.1)).Nodup) {j : Nat} (hj : j < ms.length) {m : Int × Int} (hm : m ∈ ms.take j) (eq : m.1 = ms[j].1) : False := by
  obtain ⟨i, hi, ei⟩ := List.mem_iff_getElem.mp hm
  rw [List.length_take] at hi
  rw [List.getElem_take] at ei
  have apart := List.pairwise_iff_getElem.mp nd i j (by rw [List.length_map]; omega) (by rw [List.length_map]; exact hj) (by omega)
  rw [List.getElem_map, List.getElem_map, ei] at apart
  exact apart eq
theorem eqv_pairs (a b c d : Int) : PyData.eqv (.tuple [.int a, .int b]) (.tuple [.int c, .int d]) = decide (a = c ∧ b = d) := by
  by_cases h1 : a = c <;> by_cases h2 : b = d <;> simp [PyData.eqv, PyData.eqvAll, h1, h2]
theorem shaped_pair (a b : Int) : SeqAt.shaped (.tuple [.int a, .int b]) = true := by simp [SeqAt.shaped, PyData.canLay0, PyData.canLayAll0, PyData.depth, PyData.depthAll]
theorem drop_ends (c : Nat) (es : List Edg) : dropK (endsK es) (Sum.inr (txt [c]) : Key) = endsK (es.filter fun e => decide (e.letter ≠ c)) := by
  unfold dropK endsK
  rw [List.filter_map]
  congr 1
  apply List.filter_congr
  intro e _
  apply decide_eq_decide.mpr
  show (Sum.inr (txt [e.letter]) : Key) ≠ Sum.inr (txt [c]) ↔ e.letter ≠ c
  exact ⟨fun h z => h (by rw [z]), fun h z => h (List.head_eq_of_cons_eq (txt_inj (Sum.inr.inj z)))⟩
theorem drop_marks (n : Int) (ms : List (Int × Int)) : dropK (marksK ms) (Sum.inl n : Key) = marksK (ms.filter fun m => decide (m.1 ≠ n)) := by
  unfold dropK marksK
  rw [List.filter_map]
  congr 1
  apply List.filter_congr
  intro m _
  apply decide_eq_decide.mpr
  show (Sum.inl m.1 : Key) ≠ Sum.inl n ↔ m.1 ≠ n
  exact ⟨fun h z => h (by rw [z]), fun h z => h (Sum.inl.inj z)⟩
theorem tri_without (c : Nat) (es : List Edg) : (es.filter fun e => decide (e.letter ≠ c)).map tri = without c (es.map tri) := by
  unfold without
  rw [List.filter_map]
  rfl
end Tm

/-! len and repr, by an own __len__ and __repr__ -/
namespace Tm
open PySem PySem.Spec PyProof.Rows L2
section
variable {X : Cx} {C f : Addr} {fd : FuncData} {ps : List Str} {sp : Sp} {k : Nat} {E : XK}
/-- an own function that is asked by a builtin one -/
theorem own_under {pins : List (Addr × Obj)} {s : Shared} {σ : L2.St} {H : Hp} {x : Addr} {Q : VK} {R E' : Value → Shared → Prop} (promise : FnOk X.prog X.w X.K X.mg X.base CX0 k f fd ps sp) (room : Room (k + 1) X.A) (binds : Binds X.K fd ps [])
    (inv : Inv X pins σ H s) (ask : sp [.ref x] H Q E) (give : ∀ u s', EP X pins σ Q u s' → R u s') : wpAny (model X.prog X.w) X.A.in1 (call (.ref f) [.ref x]) R E' s := by
  have long : ([Value.ref x] ++ []).length = ps.length := by rw [← promise.len _ _ _ _ ask]; rfl
  apply wpAny_call
  apply codeAny_mono (promise.run X.A.in1 X.stack s H ⟨[.ref x], []⟩ [.ref x] [.ref x] Q E room.in1 inv.env0.in1 (binds s [.ref x] inv.kIn long) (.cons rfl .nil) ask)
  intro r s' end_
  cases r with
  | error _ => exact end_.elim
  | ok fl => cases fl with
    | ret u => exact give u s' (inv.after end_)
    | next => exact end_.elim
    | brk => exact end_.elim
    | cont => exact end_.elim
/-- len(o) -/
theorem call_lenOwn (at_ : PySem.W.findIn X.K (.ref C) "__len__" = some (some (.ref f))) (isF : PySem.W.isFn X.K (.ref f) = true) (promise : FnOk X.prog X.w X.K X.mg X.base CX0 k f fd ps sp) (room : Room (k + 1) X.A) (binds : Binds X.K fd ps []) :
    CallR X (.builtin "len") (fun given H Q => ∃ (x dx : Addr) (fs : List (Str × V)), given = [.ref x] ∧ H x = some (.ins C dx fs) ∧ sp [.ref x] H (fun r H' => ∃ n : Nat, r = .int n ∧ (n : Int) < 2 ^ 63 ∧ Q (.int n) H') (fun _ _ _ => False)) := by
  intro pins s σ H given held Q inv rel ask
  obtain ⟨x, dx, fs, rfl, hx, ask⟩ := ask
  obtain ⟨u, rfl, rx⟩ := vals1 rel
  obtain rfl : u = Value.ref x := rx
  obtain ⟨_, O, _⟩ := ins_get inv.hok hx
  obtain ⟨od, inst, _⟩ := O.look
  obtain ⟨m, fr⟩ := inv.fr
  refine PySem.W.len_K fr inv.mod.kin inst at_ isF (own_under promise room binds inv ask ?_)
  rintro u s' ⟨v, H', inv', rv, n, rfl, small, q⟩
  obtain ⟨tok, rfl⟩ := rv
  exact ⟨⟨Int.natCast_nonneg n, small⟩, .int n, H', inv'.tok _, ⟨_, rfl⟩, q⟩
/-- repr(o) -/
theorem call_reprOwn (at_ : PySem.W.findIn X.K (.ref C) "__repr__" = some (some (.ref f))) (isF : PySem.W.isFn X.K (.ref f) = true) (promise : FnOk X.prog X.w X.K X.mg X.base CX0 k f fd ps sp) (room : Room (k + 1) X.A) (binds : Binds X.K fd ps []) :
    CallR X (.builtin "repr") (fun given H Q => ∃ (x dx : Addr) (fs : List (Str × V)), given = [.ref x] ∧ H x = some (.ins C dx fs) ∧ sp [.ref x] H (fun r H' => ∃ z : Str, r = .str z ∧ Q (.str z) H') (fun _ _ _ => False)) := by
  intro pins s σ H given held Q inv rel ask
  obtain ⟨x, dx, fs, rfl, hx, ask⟩ := ask
  obtain ⟨u, rfl, rx⟩ := vals1 rel
  obtain rfl : u = Value.ref x := rx
  obtain ⟨_, O, _⟩ := ins_get inv.hok hx
  obtain ⟨od, inst, _⟩ := O.look
  obtain ⟨m, fr⟩ := inv.fr
  have low : X.A.in1.units < cLine := by have := room.in1.un; omega
  refine PySem.W.repr_K low fr inv.mod.kin inst at_ isF (own_under promise room binds inv ask ?_)
  rintro u s' ⟨v, H', inv', rv, z, rfl, q⟩
  obtain ⟨tok, rfl⟩ := rv
  exact ⟨.str z, H', inv', ⟨_, rfl⟩, q⟩
end
end Tm

/-! a pair backwards: pair[::-1] -/
namespace Tm
open PySem PySem.Spec PyProof.Rows L2
section
variable {P : Program} {ww : World} {Ar : Around} {Er : Value → Shared → Prop} {sh : Shared}
/-- [::-1] of two: from the second place, two steps down -/
theorem back_places {sl : Addr} {unit : Tok} {n : Int} {Q : Int × Int × Nat → Shared → Prop} (two : n = 2) (there : sh.heap.IsSliceOf sl .none .none (.int (-1) unit)) (give : Q (1, -1, 2) sh) : wpAny (model P ww) Ar (Builtin.Slice.sliceApplied (.ref sl) (pure n)) Q Er sh := by
  subst two
  obtain ⟨o, ho, hc, hd⟩ := there
  simp only [Builtin.Slice.sliceApplied, Builtin.Slice.sliceFields]
  wp_walk using wpAny_field ho hd (x := .none) rfl, wpAny_field ho hd (x := .int (-1) unit) rfl, slicePart_none, slicePart_int
  exact give
/-- what tuple's own __getitem__ gives for it -/
theorem back_given {t sl : Addr} {x y : Value} {unit : Tok} {Q : Fin → Shared → Prop} (tup : IsTup sh.heap t #[x, y]) (there : sh.heap.IsSliceOf sl .none .none (.int (-1) unit))
    (give : Q (.done (.ret (.ref sh.heap.objs.size))) { sh with heap := sh.heap.push { cls := .type "tuple", data := .seq #[y, x] } }) : wpAny (model P ww) Ar (Builtin.«tuple.__getitem__» ⟨[.ref t, .ref sl], []⟩) Q Er sh := by
  have slice : sh.TypeIs (.ref sl) "slice" := there.elim fun o h => ⟨o, h.1, h.2.1⟩
  have small : sizeOk (.seq #[y, x]) := by show 2 ≤ sizeLine; rw [sizeLine_eq]; decide
  unfold Builtin.«tuple.__getitem__»
  wp_walk using tupleItemsOf_ tup, wpAny_typeOf slice, back_places (n := ((#[x, y].size : Nat) : Int)) rfl there
  exact give
theorem pair_turned {t sl : Addr} {x y : Value} {unit : Tok} {Q : Value → Shared → Prop} (tup : IsTup sh.heap t #[x, y]) (there : sh.heap.IsSliceOf sl .none .none (.int (-1) unit))
    (give : Q (.ref sh.heap.objs.size) { sh with heap := sh.heap.push { cls := .type "tuple", data := .seq #[y, x] } }) : wpAny (model P ww) Ar (getItem (.ref t) (.ref sl)) Q Er sh := by
  have entered : ∀ {Q' : Value → Shared → Prop}, Q' (.ref sh.heap.objs.size) { sh with heap := sh.heap.push { cls := .type "tuple", data := .seq #[y, x] } } → wpAny (model P ww) Ar (call (.builtin "tuple.__getitem__") [.ref t, .ref sl]) Q' Er sh := fun q =>
    wpAny_call_entry PyProof.Rows.slot_tuple_getitem tup.typeIs entry_tuple_getitem (back_given tup there ⟨_, rfl, q⟩) (args_tuple_getitem _ _)
  unfold getItem
  wp_walk using entered, wpAny_sequenceKey tup.typeIs (by decide), wpAny_callSpecial?_slot (name := Str.ofString "__getitem__") tup.typeIs PyProof.Rows.slot_tuple_getitem
  exact give
end
def tPairBack (K : PySem.W.Frag) (te : TE) : TE := fun σ H Q => te σ H fun v H1 => ∃ (t : Addr) (x y : V), v = .ref t ∧ SqT K H1 t [x, y] ∧ ∀ l, H1 l = none → Q (.ref l) (upd H1 l (.tup [y, x]))
theorem pe_pairBack {X : Cx} {e : Expr} {te : TE} {k : Nat} {p1 p2 p3 pos : Pos} (he : PE X e te) :
    PE X (.Subscript e (.Slice none none (some (.UnaryOp .USub (.Constant (.int 1) k p1) p2)) p3) pos) (tPairBack X.K te) where
  run pins s σ H Q inv ask := by
    have minus : PE X (.UnaryOp .USub (.Constant (.int 1) k p1) p2) _ := pe_un un_neg pe_int
    apply PyProof.Rows.Subscript_
    apply wpAny_mono (he.run pins s σ H _ inv ask) _ (fun _ _ raised => raised)
    rintro v s1 ⟨z, H1, inv1, rel, t, x, y, rfl, two, hand⟩
    obtain rfl : v = Value.ref t := rel
    apply wpAny_Slice
    rw [evalPart_none, evalPart_some]
    apply wpAny_pure
    apply wpAny_pure
    apply wpAny_mono (minus.run pins s1 σ H1 (fun y H2 => y = .int (-1) ∧ H2 = H1) inv1 ?ask) _ (fun _ _ raised => raised)
    case ask => exact ⟨_, rfl, rfl, rfl⟩
    rintro v s2 ⟨z, H2, inv2, rel, rfl, rfl⟩
    rcases rel with ⟨unit, rfl⟩
    have inv3 : Inv X pins σ H2 { s2 with heap := s2.heap.push { cls := .type "slice", data := .fields #[.none, .none, .int (-1) unit] } } := inv2.kept (t' := s2.toks) fun b o there => Heap.get?_push_of_some _ there
    obtain ⟨its, vals, tup, _⟩ := inv3.tuple two
    cases vals with
    | cons ra rest =>
      cases rest with
      | cons rb rest =>
        cases rest
        rename_i a b
        show wpAny (model X.prog X.w) X.A (subscriptTail e (.Slice none none (some (.UnaryOp .USub (.Constant (.int 1) k p1) p2)) p3) (.ref t) (.ref s2.heap.objs.size)) (EP X pins σ Q) X.xe { s2 with heap := s2.heap.push { cls := .type "slice", data := .fields #[.none, .none, .int (-1) unit] } }
        refine tail_any (ops := [.ref t, .ref s2.heap.objs.size]) tup.typeIs PyProof.Rows.slot_tuple_getitem.lookup ?_ (by with_unfolding_all rfl)
        apply pair_turned tup (Heap.IsSliceOf.new _ .none .none (.int (-1) unit))
        refine ⟨.ref _, _, inv3.laid (t' := s2.toks) (o := .tup [y, x]) (fun b o there => Heap.get?_push_of_some _ there) (Nat.le_refl _) ?_, rfl, hand _ (inv3.hok.fresh (Nat.le_refl _))⟩
        exact ⟨by show 2 ≤ sizeLine; rw [sizeLine_eq]; decide, _, .cons rb (.cons ra .nil), IsTup.new _ _⟩
end Tm

/-! The parts of a web. -/
namespace Tm
open PySem PySem.Spec PyProof.Rows L2
/-- xs.clear() -/
def rEmptied : V → List V → Hp → VK → Prop := fun x given H Q => ∃ (l : Addr) (xs : List V), x = .ref l ∧ given = [] ∧ H l = some (.lst xs) ∧ Q .non (upd H l (.lst []))
theorem mt_emptied {X : Cx} : MtM X "list.clear" rEmptied := by
  intro pins s σ H x given v held Q inv rel rels ask
  obtain ⟨l, xs, rfl, rfl, here, hand⟩ := ask
  cases rel
  have none_ := rels.zero
  subst none_
  obtain ⟨z, its, n, vals, len, at_⟩ := inv.lstM here
  refine call_meets F.slot_list_clear ⟨_, at_, rfl⟩ F.entry_list_clear (F.args_list_clear_1 _) (PySem.AutoSeq1.list_clear_list_0 l its.toArray n (by rw [List.size_toArray]; omega)) ⟨at_, ?_⟩
  exact ⟨.non, _, inv.lset (its' := []) here at_ (by simp) .nil (Nat.zero_le _), rfl, hand⟩
/-! ### what the methods promise -/
def badN (n : Int) : List (Str × V) := [("node", .int n), ("code", .str "unknownnode")]
def spChkNE (CU C : Addr) : Sp := fun vs H Q E => ∃ (x : Addr) (n : Int) (ms : List (Int × Int)) (es : List Edg), vs = [.ref x, .int n] ∧ WebAt C H x ms es ∧ (n ∈ ms.map (·.1) → Q .non H) ∧ (n ∉ ms.map (·.1) → Raised E CU (badN n) H)
def spMarkE (CU C : Addr) : Sp := fun vs H Q E => ∃ (x : Addr) (n : Int) (ms : List (Int × Int)) (es : List Edg), vs = [.ref x, .int n] ∧ WebAt C H x ms es ∧ (∀ k, (n, k) ∈ ms → Q (.int k) H) ∧ (n ∉ ms.map (·.1) → Raised E CU (badN n) H)
def spStarE (CU C : Addr) : Sp := fun vs H Q E => ∃ (x : Addr) (n : Int) (ms : List (Int × Int)) (es : List Edg), vs = [.ref x, .int n] ∧ WebAt C H x ms es ∧ (n ∈ ms.map (·.1) → Q (.str (txt (star es n))) H) ∧ (n ∉ ms.map (·.1) → Raised E CU (badN n) H)
def spEndsE (CU C : Addr) : Sp := fun vs H Q E => ∃ (x : Addr) (z : List Nat) (ms : List (Int × Int)) (es : List Edg), vs = [.ref x, .str (txt z)] ∧ WebAt C H x ms es ∧ (∀ e ∈ es, z = [e.letter] → Q (.ref e.pair) H) ∧ ((∀ e ∈ es, [e.letter] ≠ z) → Raised E CU (badE z) H)
def spLen (C : Addr) : Sp := fun vs H Q _ => ∃ (x : Addr) (ms : List (Int × Int)) (es : List Edg), vs = [.ref x] ∧ WebAt C H x ms es ∧ Q (.int (es.length : Nat)) H
def numS (n : Nat) : Str := Str.ofString (toString (n : Int))
def shown (n m : Nat) : Str := ((((Str.ofString "Web(") ++ numS n) ++ Str.ofString " nodes, ") ++ numS m) ++ Str.ofString " edges)"
def spRepr (C : Addr) : Sp := fun vs H Q _ => ∃ (x : Addr) (ms : List (Int × Int)) (es : List Edg), vs = [.ref x] ∧ WebAt C H x ms es ∧ ms.length < 64 ∧ es.length < 64 ∧ Q (.str (shown ms.length es.length)) H
def odd (ms : List (Int × Int)) : Int := (ms.map (·.2)).sum % 2
def spPar (C : Addr) : Sp := fun vs H Q _ => ∃ (x : Addr) (ms : List (Int × Int)) (es : List Edg), vs = [.ref x] ∧ WebAt C H x ms es ∧ ms.length < 64 ∧ ∀ H', Same H H' → Q (.int (odd ms)) H'
def spLAt : Sp := fun vs H Q _ => ∃ (t : Addr) (n : Int) (ms : List (Int × Int)) (es : List Edg), vs = [.ref t, .int n] ∧ RawG H t ms es ∧ ∀ H' (es1 : List Edg), Same H H' → es1.Perm es → (es1.map (·.letter)).Pairwise (· < ·) → Q (.str (txt (star es1 n))) H'
theorem num_short : ∀ n : Nat, n < 64 → (numS n).length ≤ 2 := by decide +kernel
theorem num_small {n : Nat} (h : n < 64) : ((n : Nat) : Int).natAbs.log2 < 1920 := by
  show n.log2 < 1920
  have : n.log2 < 6 ∨ n.log2 = 0 := by
    by_cases z : n = 0
    · right; rw [z]; rfl
    · left; exact (Nat.log2_lt z).mpr h
  omega
theorem star_at {ms : List (Int × Int)} {es : List Edg} (nd : (ms.map (·.1)).Nodup) {n : Int} (h : n ∈ ms.map (·.1)) : valV (starsK ms es) (Sum.inl n) = some (.str (txt (star es n))) := by
  obtain ⟨m, hm, rfl⟩ := List.mem_map.mp h
  refine valV_mem ?_ (List.mem_map.mpr ⟨m, hm, rfl⟩)
  have q : (starsK ms es).map (·.1) = (ms.map (·.1)).map fun c => (Sum.inl c : Key) := by
    unfold starsK
    rw [List.map_map, List.map_map]
    rfl
  rw [q]
  exact List.pairwise_map.mpr (nd.imp fun hac he => hac (Sum.inl.inj he))
theorem no_mark {ms : List (Int × Int)} {n : Int} (h : n ∉ ms.map (·.1)) : valV (marksK ms) (Sum.inl n) = none := by
  apply valV_fresh
  intro m
  unfold marksK at m
  rw [List.map_map] at m
  obtain ⟨e, he, eq⟩ := List.mem_map.mp m
  exact h (List.mem_map.mpr ⟨e, he, Sum.inl.inj eq⟩)
theorem in_order {es : List Edg} {ys : List Str} (p : ys.Perm (es.map fun e => txt [e.letter])) (r : sortedS ys = true) (nd : (es.map (·.letter)).Nodup) : ∃ es1 : List Edg, es1.Perm es ∧ ys = es1.map (fun e => txt [e.letter]) ∧ (es1.map (·.letter)).Pairwise (· < ·) := by
  obtain ⟨es1, p1, rfl⟩ := perm_lift (fun e : Edg => txt [e.letter]) ys es p
  refine ⟨es1, p1, rfl, ?_⟩
  refine letters_rise (cs := es1.map (·.letter)) ?_ ((p1.map _).nodup_iff.mpr nd)
  rw [List.map_map]
  exact r
end Tm

/-! Dicts that may be no web: what the checks say of them. -/
namespace Tm
open PySem PySem.Spec PyProof.Rows L2
structure Nam where
  name : List Nat
  pair : Addr
  lo : Int
  hi : Int
def namsK (es : List Nam) : List (Key × V) := es.map fun e => (Sum.inr (txt e.name), V.ref e.pair)
theorem keysN (es : List Nam) : (namsK es).map (·.1) = (es.map fun e => txt e.name).map Sum.inr := by
  unfold namsK
  rw [List.map_map, List.map_map]
  rfl
def okNode (n : Int) : Bool := decide (0 ≤ n) && decide (n < 12)
def okMark (v : Int) : Bool := decide (v = 0) || decide (v = 1)
def okName : List Nat → Bool
  | [c] => decide (c ∈ alpha)
  | _ => false
def hasN (ms : List (Int × Int)) (n : Int) : Bool := (valV (marksK ms) (Sum.inl n)).isSome
def okJoin (ms : List (Int × Int)) (x y : Int) : Bool := !decide (x = y) && (hasN ms x && hasN ms y)
def spIsNodeB : Sp := fun vs H Q _ => ∃ n : Int, vs = [.int n] ∧ Q (.bl (okNode n)) H
def spIsMarkB : Sp := fun vs H Q _ => ∃ n : Int, vs = [.int n] ∧ ∀ H', Same H H' → Q (.bl (okMark n)) H'
def spIsNameB : Sp := fun vs H Q _ => ∃ z : List Nat, vs = [.str (txt z)] ∧ z.length ≤ 1000 ∧ Q (.bl (okName z)) H
def spJoinsB : Sp := fun vs H Q _ => ∃ (dm p : Addr) (ms : List (Int × Int)) (x y : Int), vs = [.ref dm, .ref p] ∧ H dm = some (.dK (marksK ms)) ∧ H p = some (.tup [.int x, .int y]) ∧ Q (.bl (okJoin ms x y)) H
theorem nam_at {es : List Nam} (nd : (es.map (·.name)).Nodup) {e : Nam} (h : e ∈ es) : valV (namsK es) (Sum.inr (txt e.name)) = some (.ref e.pair) := by
  refine valV_mem ?_ (List.mem_map.mpr ⟨e, h, rfl⟩)
  rw [keysN]
  refine List.pairwise_map.mpr (List.pairwise_map.mpr ((List.pairwise_map.mp nd).imp fun {a b} ne z => ne ?_))
  exact txt_inj (Sum.inr.inj z)
end Tm

namespace T02
open PySem PySem.Spec PyProof.Rows L2 Tm
open ClX
abbrev sIsNode : Stmt := topS 11
abbrev sIsMark : Stmt := topS 12
abbrev sIsName : Stmt := topS 13
abbrev sJoins : Stmt := topS 14
theorem scIsNode : FnScope ["number"] ["number"] (defScope sIsNode) := ⟨rfl, rfl, rfl, by decide +kernel, rfl, by decide +kernel, by decide +kernel⟩
theorem scIsMark : FnScope ["number"] ["number"] (defScope sIsMark) := ⟨rfl, rfl, rfl, by decide +kernel, rfl, by decide +kernel, by decide +kernel⟩
theorem scIsName : FnScope ["text"] ["text"] (defScope sIsName) := ⟨rfl, rfl, rfl, by decide +kernel, rfl, by decide +kernel, by decide +kernel⟩
theorem scJoins : FnScope ["marks", "pair"] ["marks", "pair"] (defScope sJoins) := ⟨rfl, rfl, rfl, by decide +kernel, rfl, by decide +kernel, by decide +kernel⟩
structure ChkT (K : PySem.W.Frag) (mg : Str → Option Value) (C : Addr) (mc : Value) : Prop where
  web : mg "Web" = some (.ref C)
  read : CRead K C mc
  nodes : ∃ u, CVal K C mc "MAX_NODES" (.int 12) u
  names : ∃ t, mg "EDGE_NAMES" = some (.str (Str.ofString "abcdefghijklmnopqrstuvwx") t)
  sorted : mg "sorted" = none
  len : mg "len" = none
section
variable {P : Program} {w : World} {K : PySem.W.Frag} {mg : Str → Option Value} {base : Heap}
theorem ok_isnodeB {f C : Addr} {mc : Value} {fd : FuncData} (F : Fun K "is_node" "is_node" sIsNode f fd) (T : ChkT K mg C mc) : FnOk P w K mg base CX0 1 f fd ["number"] spIsNodeB := by
  refine F.ok scIsNode (fun vs H Q E h => ?_) (fun cdv A outer s H vs Q E hr h => ?_)
  · obtain ⟨n, rfl, _⟩ := h
    rfl
  · obtain ⟨n, rfl, q⟩ := h
    obtain ⟨u, cv⟩ := T.nodes
    refine ⟨_, pss_one (ps_ret (pe_chain op_le op_lt pe_int (pv 0) (pe_cval (pe_glob (v := .ref C) (by rfl) T.web rfl)))), ?_⟩
    unfold okNode at q
    refine ⟨_, rfl, 0, n, rfl, rfl, decide (0 ≤ n), rfl, ?_⟩
    cases c : decide (0 ≤ n) with
    | false => rw [c, Bool.false_and] at q; exact iteF q
    | true => rw [c, Bool.true_and] at q; exact iteT ⟨C, mc, _, u, rfl, T.read, cv, n, 12, rfl, rfl, q⟩
theorem ok_ismarkB {f : Addr} {fd : FuncData} (F : Fun K "is_mark" "is_mark" sIsMark f fd) : FnOk P w K mg base CX0 1 f fd ["number"] spIsMarkB := by
  refine F.ok scIsMark (fun vs H Q E h => ?_) (fun cdv A outer s H vs Q E hr h => ?_)
  · obtain ⟨n, rfl, _⟩ := h
    rfl
  · obtain ⟨n, rfl, q⟩ := h
    refine ⟨_, pss_one (ps_ret (pe_cmpR op_in_seq (pv 0) (pe_tup (pa_cons pe_int (pa_cons pe_int pa_nil))) (by rfl))), ?_⟩
    refine ⟨_, rfl, (by show 2 ≤ sizeLine; decide), fun t nt => ⟨t, _, rfl, .inr (.inl (.inl upd_same)), rfl, rfl, ?_⟩⟩
    have e : inV (.int n) [.int 0, .int 1] = okMark n := by
      rw [in_two]
      unfold okMark
      by_cases h0 : n = 0 <;> by_cases h1 : n = 1 <;> simp [h0, h1] <;> omega
    show Q (.bl (inV (.int n) [.int 0, .int 1])) _
    rw [e]
    exact q _ (same_upd nt)
theorem ok_isnameB {f C : Addr} {mc : Value} {fd : FuncData} (F : Fun K "is_name" "is_name" sIsName f fd) (T : ChkT K mg C mc) : FnOk P w K mg base CX0 1 f fd ["text"] spIsNameB := by
  refine F.ok scIsName (fun vs H Q E h => ?_) (fun cdv A outer s H vs Q E hr h => ?_)
  · obtain ⟨z, rfl, _⟩ := h
    rfl
  · obtain ⟨z, rfl, few, q⟩ := h
    obtain ⟨tk, mn⟩ := T.names
    refine ⟨_, pss_one (ps_ret (pe_and (pe_cmpR op_eq (pe_callB call_len_str (by rfl) T.len PySem.boot_len (pa_cons (pv 0) pa_nil)) pe_int (nomark _)) (pe_one (pe_cmpR op_in_sign (pv 0) (pe_glob (v := .str (Str.ofString "abcdefghijklmnopqrstuvwx")) (by rfl) mn ⟨tk, rfl⟩) (by rfl))))), ?_⟩
    refine ⟨_, rfl, _, rfl, by rw [txt_len]; exact Nat.le_of_lt (small1000 few), rfl, decide (z.length = 1), ?_, ?_⟩
    · rw [txt_len]
      exact congrArg V.bl (decide_eq_decide.mpr ⟨fun h => by injection h with h; omega, fun h => by rw [h]; rfl⟩)
    · match z, q with
      | [], q => exact ifF rfl q
      | [c], q =>
        refine ifT rfl ⟨_, rfl, c, _, rfl, rfl, ?_⟩
        rw [txt_alpha, txt_cps]
        exact q
      | a :: b :: r, q => exact ifF (decide_eq_false (by simp)) q
theorem ok_joinsB {f C : Addr} {mc : Value} {fd : FuncData} (F : Fun K "joins_two" "joins_two" sJoins f fd) (T : ChkT K mg C mc) : FnOk P w K mg base CX0 1 f fd ["marks", "pair"] spJoinsB := by
  refine F.ok scJoins (fun vs H Q E h => ?_) (fun cdv A outer s H vs Q E hr h => ?_)
  · obtain ⟨dm, p, ms, x, y, rfl, _⟩ := h
    rfl
  · obtain ⟨dm, p, ms, x, y, rfl, hm, hp, q⟩ := h
    have sp : SqT K H p [.int x, .int y] := .inl (.inl hp)
    refine ⟨_, pss_one (ps_ret (pe_and (pe_cmpR op_eq (pe_callB call_len_seq (by rfl) T.len PySem.boot_len (pa_cons (pv 1) pa_nil)) pe_int (nomark _))
      (pe_and (pe_cmpR op_ne (pe_ix ix_tup (pv 1) pe_int (fun _ _ => rfl)) (pe_ix ix_tup (pv 1) pe_int (fun _ _ => rfl)) (nomark _))
      (pe_and (pe_cmp (pc_din (hu_of hr) (pe_ix ix_tup (pv 1) pe_int (fun _ _ => rfl)) (pv 0)) rfl)
      (pe_one (pe_cmp (pc_din (hu_of hr) (pe_ix ix_tup (pv 1) pe_int (fun _ _ => rfl)) (pv 0)) rfl)))))), ?_⟩
    unfold okJoin hasN at q
    have ei : decide (V.int x = V.int y) = decide (x = y) := decide_eq_decide.mpr ⟨fun h => V.int.inj h, fun h => by rw [h]⟩
    refine ⟨_, rfl, p, _, rfl, .inr sp, rfl, true, rfl, iteT ?_⟩
    refine ⟨_, rfl, p, _, 0, .int x, rfl, rfl, sp, rfl, _, rfl, p, _, 1, .int y, rfl, rfl, sp, rfl, rfl, !decide (x = y), by rw [ei], ?_⟩
    cases c : decide (x = y) with
    | true => rw [c] at q; exact iteF q
    | false =>
    rw [c] at q
    refine iteT ⟨_, rfl, p, _, 0, .int x, rfl, rfl, sp, rfl, _, rfl, dm, _, rfl, DGet.k (k := Sum.inl x) hm, _, rfl, ?_⟩
    cases cx : (valV (marksK ms) (Sum.inl x)).isSome with
    | false => rw [cx] at q; exact iteF q
    | true =>
    rw [cx] at q
    exact iteT ⟨_, rfl, p, _, 1, .int y, rfl, rfl, sp, rfl, _, rfl, dm, _, rfl, DGet.k (k := Sum.inl y) hm, q⟩
end


end T02

/-! sets of texts -/
namespace Tm
open PySem PySem.Spec PyProof.Rows L2 PySem.Froz
section
variable {P : Program} {w : World} {A : Around} {E : Value → Shared → Prop} {s : Shared}
/-- the payload of a set that was just made -/
def fresh (w : World) : SD := (#[], 0, .fresh 0 0 (!w.params.followText "set-order"))
theorem new_set1 (v : Value) {Q : Value → Shared → Prop} (h : Q (.ref s.heap.objs.size) { s with heap := s.heap.push (sObj "set" (fresh w)) }) :
    codeAny (model P w) A (.call (.builtin "set.__new__") ⟨[.type "set", v], []⟩) (wants Q E) s := by
  refine codeAny_call_builtin PySem.F.plain_set_new PySem.F.entry_set_new (wpAny_of_eq (PySem.F.newCall_set_1 v) ?_)
  unfold Builtin.«set.__new__» Builtin.Frozenset.newClass
  have sub := PySem.sub_set_self
  repeat any_goals first | assumption | wp_step
  apply wpAny_askSetting
  apply wpAny_pure
  simp only [newObj]
  apply wpAny_bind
  apply wpAny_alloc
  apply wpAny_pure
  exact wpAny_pure h
/-- a text that is there already -/
theorem add_old {a : Addr} {T : String} {D : SD} {l : List Str} {k : Str} {u : Tok} {Q : Bool → Shared → Prop} (there : s.heap.get? a = some (sObj T D)) (F : TxOk P w D l) (hk : k ∈ l) (few : l.length < scanBound) (h : Q false s) :
    wpAny (model P w) A (setAddHashed a (.str k u) (hashStr w k)) Q E s := by
  obtain ⟨es, ep, t⟩ := D
  have size : es.size < scanBound := by rw [show es.size = l.length from F.sz]; exact few
  obtain ⟨e, he, hit⟩ := (F.mem k).mp hk
  have found : ∃ j, es.toList.findIdx? (fun e => (strKind P w).is k e.2) = some j := by
    cases q : es.toList.findIdx? (fun e => (strKind P w).is k e.2) with
    | none => exact absurd hit (by simpa using List.findIdx?_eq_none_iff.mp q e he)
    | some j => exact ⟨j, rfl⟩
  obtain ⟨j, at_j⟩ := found
  unfold setAddHashed
  apply wpAny_holding
  show wpAny _ _ (setAddHashedIn a (.str k u) (hashStr w k) (99999 + 1)) _ _ _
  unfold setAddHashedIn
  apply wpAny_bind
  apply wpAny_setState_of there rfl F.fit
  dsimp only
  rw [if_pos (byScan_of (knd := strKind P w) rfl size F.el)]
  apply wpAny_bind
  unfold setAddByScan
  apply wpAny_bind
  apply wpAny_rule
  apply wpAny_bind
  apply wpAny_setScan_of (knd := strKind P w) (k := k) (is_str k u) there rfl F.fit F.el
  rw [at_j]
  apply wpAny_pure
  exact wpAny_pure h
/-- the set of the texts l at a: its table can be walked -/
structure SetTx (w : World) (h : Heap) (a : Addr) (l : List Str) : Prop where
  ex : ∃ D : SD, h.get? a = some (sObj "set" D) ∧ (∀ P : Program, TxOk P w D l) ∧ Ris D.2.2.place.toList ∧ (w.params.followText "set-order" = true ∨ D.2.2.led = true)
  nodup : l.Nodup
theorem SetTx.at {h h' : Heap} {a : Addr} {l : List Str} (S : SetTx w h a l) (k : ∀ o, h.get? a = some o → h'.get? a = some o) : SetTx w h' a l := by
  obtain ⟨⟨D, there, r⟩, nd⟩ := S
  exact ⟨⟨D, k _ there, r⟩, nd⟩
theorem addTx_ris (h : Int) (v : Value) (D : SD) (r : Ris D.2.2.place.toList) : Ris (addTx h v D).2.2.place.toList ∧ (addTx h v D).2.2.led = D.2.2.led := by
  have r1 := layNew_ris D.2.2 D.1 h v r
  have l1 := layNew_led D.2.2 D.1 h v
  unfold addTx tailTx
  generalize layNew D.2.2 D.1 h v = Z at r1 l1 ⊢
  obtain ⟨es1, t1, wd, gave⟩ := Z
  dsimp only at r1 l1 ⊢
  have r2 : Ris (if t1.plain = true then { t1 with plain := false } else t1).place.toList := by
    split
    · exact r1
    · exact r1
  have l2 : (if t1.plain = true then { t1 with plain := false } else t1).led = D.2.2.led := by
    split
    · exact l1
    · exact l1
  generalize (if t1.plain = true then { t1 with plain := false } else t1) = t2 at r2 l2 ⊢
  split
  · exact ⟨relayAll_ris _ _ _, (relayAll_led _ _ _).trans l2⟩
  · exact ⟨r2, l2⟩
/-- the members behind an add -/
def addS (l : List Str) (k : Str) : List Str := if k ∈ l then l else k :: l
theorem add_tx {a : Addr} {l : List Str} {k : Str} {u : Tok} {Q : Bool → Shared → Prop} (S : SetTx w s.heap a l) (few : l.length + 1 < scanBound)
    (h : ∀ h', Heap.SameBut a s.heap h' → SetTx w h' a (addS l k) → ∀ b, Q b { s with heap := h', toks := s.toks + 1 }) : wpAny (model P w) A (setAdd a (.str k u)) Q E s := by
  obtain ⟨⟨D, there, ok, ris, led⟩, nd⟩ := id S
  unfold setAdd
  apply wpAny_holding
  apply wpAny_bind
  apply (strKind P w).pyHash (k := k) (strKind_is _ _ _ _)
  by_cases hk : k ∈ l
  · apply add_old (s := { s with toks := s.toks + 1 }) there (ok P) hk (by omega)
    have e : addS l k = l := if_pos hk
    rw [e] at h
    exact h s.heap (Heap.SameBut.refl _ _) S false
  · apply add_x (s := { s with toks := s.toks + 1 }) there (ok P) hk few
    have e : addS l k = k :: l := if_neg hk
    rw [e] at h
    obtain ⟨r2, l2⟩ := addTx_ris (hashStr w k) (.str k u) D ris
    refine h _ (Heap.SameBut.update s.heap a _) ⟨⟨_, get_upd _ there rfl, fun P => add_ok u (ok P), r2, led.imp id fun z => l2.trans z⟩, List.nodup_cons.mpr ⟨hk, nd⟩⟩ true
theorem addS_len (l : List Str) (k : Str) : (addS l k).length ≤ l.length + 1 := by
  unfold addS
  split
  · exact Nat.le_succ _
  · exact Nat.le_refl _
/-- the loop that puts what an iterator hands out into the set -/
theorem fill_tx {R : Result → Shared → Prop} {I a : Addr} {fp wr : List Addr} {n : Nat} {Pv : Nat → Value → Prop} {St : Nat → Heap → Prop} (xs : List Str) (W : Walks P w A.in1 I fp wr n Pv St) (hn : n = xs.length) (texts : ∀ i v, Pv i v → ∃ x t, xs[i]? = some x ∧ v = .str x t) (apart : a ∉ fp) :
    ∀ (m i : Nat) (l : List Str) (s : Shared), i + m = n → St i s.heap → SetTx w s.heap a l → l.length + m < scanBound →
      (∀ h' tk, (∀ b o, b ∉ a :: wr → s.heap.get? b = some o → h'.get? b = some o) → SetTx w h' a ((xs.drop i).foldl addS l) → R (.ok (.ret .none)) { s with heap := h', toks := tk }) →
      codeAny (model P w) A (.builtin "set.update.loop" ⟨[.ref a, .ref I], []⟩) R s := by
  have apart2 : a ∉ wr := fun z => apart (W.sub a z)
  intro m
  induction m with
  | zero =>
    intro i l s left st S _ hand
    have e : i = n := left
    subst e
    apply codeAny_builtin PyProof.Rows.F.entry_set_update_loop
    rw [Around.under_plainId PyProof.Rows.F.plain_set_update_loop _]
    apply wpAny_bind
    apply W.done s _ _ st
    intro h' tk kept
    apply wpAny_pure
    have none_left : xs.drop i = [] := List.drop_of_length_le (by omega)
    rw [none_left] at hand
    exact hand h' tk (fun b o hb there => kept b o (fun z => hb (List.mem_cons_of_mem _ z)) there) (S.at fun o there => kept a o apart2 there)
  | succ m ih =>
    intro i l s left st S few hand
    apply codeAny_builtin PyProof.Rows.F.entry_set_update_loop
    rw [Around.under_plainId PyProof.Rows.F.plain_set_update_loop _]
    apply wpAny_bind
    apply W.item i s _ _ (by omega) st
    intro v h1 tk1 drawn st1 kept1
    obtain ⟨x, t, at_i, rfl⟩ := texts i v drawn
    apply wpAny_bind
    apply wpAny_holding
    apply add_tx (s := { s with heap := h1, toks := tk1 }) (S.at fun o there => kept1 a o apart2 there) (by omega)
    intro h2 same2 S2 _
    have grown := addS_len l x
    have rest : xs.drop i = x :: xs.drop (i + 1) := by
      have lt : i < xs.length := (List.getElem?_eq_some_iff.mp at_i).1
      rw [List.drop_eq_getElem_cons lt, (List.getElem?_eq_some_iff.mp at_i).2]
    rw [rest] at hand
    refine wpAny_pure ⟨plainId_quiet PyProof.Rows.F.plain_set_update_loop _, ?_⟩
    apply ih (i + 1) (addS l x) { s with heap := h2, toks := tk1 + 1 } (by omega) (W.frame _ _ _ st1 fun b hb o there => ?_) S2 (by omega)
    · intro h' tk kept S'
      refine hand h' tk (fun b o hb there => ?_) S'
      have nb : b ≠ a := fun z => hb (z ▸ List.mem_cons_self)
      exact kept b o hb ((same2.2 b nb).trans (kept1 b o (fun z => hb (List.mem_cons_of_mem _ z)) there))
    · exact (same2.2 b (fun z => apart (z ▸ hb))).trans there
theorem led_or (w : World) : w.params.followText "set-order" = true ∨ (fresh w).2.2.led = true :=
  Decidable.or_iff_not_imp_left.mpr fun no => (congrArg (fun q => !q) (Bool.eq_false_iff.mpr no) :)
set_option maxHeartbeats 3200000 in
theorem init_tx {R : Result → Shared → Prop} {T : String} {v : Value} {o : Obj} {Hc : Heap → Prop} {a : Addr} (xs : List Str) (here : s.heap.get? a = some (sObj "set" (fresh w))) (B : Begins v o Hc) (now : Hc s.heap) (hv : s.TypeIs v T)
    (ns : isSubtype (.type T) (.type "set") = pure false) (nf : isSubtype (.type T) (.type "frozenset") = pure false) (nd : (Value.type T == .type "dict") = false) (few : xs.length < scanBound)
    {Pv : Nat → Value → Prop} {fp : List Addr} {St : Nat → Heap → Prop} (W : Walks P w A.in1.in1 s.heap.objs.size fp [s.heap.objs.size] xs.length Pv St) (texts : ∀ i v, Pv i v → ∃ x t, xs[i]? = some x ∧ v = .str x t)
    (start : St 0 (s.heap.push o)) (apart : a ∉ fp)
    (hand : ∀ h' tk, (∀ b ob, b ≠ a → s.heap.get? b = some ob → h'.get? b = some ob) → SetTx w h' a (xs.foldl addS []) → R (.ok (.ret .none)) { s with heap := h', toks := tk }) :
    codeAny (model P w) A (.call (.builtin "set.__init__") ⟨[.ref a, v], []⟩) R s := by
  have hT : s.TypeIs (.ref a) "set" := ⟨_, here, rfl⟩
  obtain ⟨hp, g, d, tk, os⟩ := s
  have it : ∀ {A' : Around} {E : Value → Shared → Prop} {Q : Value → Shared → Prop}, Q (.ref hp.objs.size) ⟨hp.push o, g, d, tk, os⟩ → wpAny (model P w) A' (pyIter v) Q E ⟨hp, g, d, tk, os⟩ := fun q => B.iter P w _ _ ⟨hp, g, d, tk, os⟩ _ now q
  refine codeAny_call_builtin PySem.F.called_set.init.plain PySem.F.entry_set_init (PySem.check_set_init_1 hT ?_)
  unfold Builtin.«set.__init__» noKeywords
  wp_walk using it
  have S0 : SetTx w (hp.push o) a [] := ⟨⟨fresh w, Heap.get?_push_of_some _ here, fun P => TxOk.nil rfl, .nil, led_or w⟩, .nil⟩
  apply fill_tx (A := A.in1) xs W rfl texts apart xs.length 0 [] ⟨hp.push o, g, d, tk, os⟩ (Nat.zero_add _) start S0 (by simpa using few)
  intro h' tk' kept S'
  apply wpAny_pure
  apply wpAny_pure
  refine hand h' tk' (fun b ob nb there => kept b ob (fun z => ?_) (Heap.get?_push_of_some _ there)) S'
  rcases List.mem_cons.mp z with z | z
  · exact nb z
  · have e : b = hp.objs.size := List.mem_singleton.mp z
    subst e
    exact absurd (Heap.lt_size there) (Nat.lt_irrefl _)
set_option maxHeartbeats 3200000 in
/-- set(v): the new set, then its filling -/
theorem call_set1 {v : Value} {Q : Value → Shared → Prop} (fill : codeAny (model P w) A.in1 (.call (.builtin "set.__init__") ⟨[.ref s.heap.objs.size, v], []⟩) (wants (fun r s2 => r = .none ∧ Q (.ref s.heap.objs.size) s2) E) { s with heap := s.heap.push (sObj "set" (fresh w)) }) :
    wpAny (model P w) A (call (.type "set") [v]) Q E s := by
  have ft := PySem.F.called_set
  obtain ⟨c, tl, order⟩ := ft.mro
  have made := ft.made
  have sub := ft.sub
  have h1 := ft.notType
  have h2 := ft.canCreate
  have hct := PySem.F.typeCall_set_1 v
  apply wpAny_call
  apply codeAny_of_tree
  show wpAny _ _ (callAny (.type "set") _) _ _ _
  apply wpAny_pure
  refine ⟨Code.quiet_builtin _ (by decide +kernel), ?_⟩
  apply codeAny_builtin PySem.F.entry_type_call
  rw [Around.under_plain (weight_type_call_type "set" [v] []) rfl]
  repeat any_goals first | assumption | wp_step
  refine codeAny_mono (new_set1 v (E := E) (Q := fun obj s1 => obj = .ref s.heap.objs.size ∧ s1 = { s with heap := s.heap.push (sObj "set" (fresh w)) }) ⟨rfl, rfl⟩) fun r s1 hr => ?_
  cases r with
  | error e => exact hr
  | ok fl =>
    cases fl with
    | ret obj =>
      obtain ⟨rfl, rfl⟩ := hr
      have lk := ft.init.lookup
      have bd := ft.init.bind (.ref s.heap.objs.size)
      have hT : Shared.TypeIs { s with heap := s.heap.push (sObj "set" (fresh w)) } (.ref s.heap.objs.size) "set" := ⟨_, Heap.get?_push_size _ rfl, rfl⟩
      repeat any_goals first | assumption | wp_step
      refine codeAny_mono (R := wants (fun r s2 => r = .none ∧ Q (.ref s.heap.objs.size) s2) E) ?run fun r2 s2 hr2 => ?back
      case back =>
        cases r2 with
        | error e => exact hr2
        | ok fl2 =>
          cases fl2 with
          | ret r =>
            obtain ⟨rfl, done⟩ := hr2
            repeat any_goals first | assumption | wp_step
          | next => exact hr2.elim
          | brk => exact hr2.elim
          | cont => exact hr2.elim
      case run => exact fill
    | next => exact hr.elim
    | brk => exact hr.elim
    | cont => exact hr.elim
set_option maxHeartbeats 3200000 in
theorem call_set_tx {T : String} {v : Value} {o : Obj} {Hc : Heap → Prop} {Q : Value → Shared → Prop} (xs : List Str) (B : Begins v o Hc) (now : Hc s.heap) (ty : ∀ s' : Shared, Hc s'.heap → s'.TypeIs v T)
    (ns : isSubtype (.type T) (.type "set") = pure false) (nf : isSubtype (.type T) (.type "frozenset") = pure false) (nd : (Value.type T == .type "dict") = false) (few : xs.length < scanBound)
    {Pv : Nat → Value → Prop} {fp : Addr → List Addr} {St : Addr → Nat → Heap → Prop} (hh : A.handled = none) (W : ∀ (A' : Around) (I : Addr), A'.handled = none → (∀ o, s.heap.get? I ≠ some o) → Walks P w A' I (fp I) [I] xs.length Pv (St I)) (texts : ∀ i v, Pv i v → ∃ x t, xs[i]? = some x ∧ v = .str x t)
    (start : ∀ h : Heap, Hc h → St h.objs.size 0 (h.push o)) (apart : s.heap.objs.size ∉ fp (s.heap.objs.size + 1))
    (hand : ∀ h' tk, (∀ b ob, s.heap.get? b = some ob → h'.get? b = some ob) → SetTx w h' s.heap.objs.size (xs.foldl addS []) → Q (.ref s.heap.objs.size) { s with heap := h', toks := tk }) :
    wpAny (model P w) A (call (.type "set") [v]) Q E s := by
  refine call_set1 ?_
  have now1 : Hc (s.heap.push (sObj "set" (fresh w))) := B.keeps _ _ now fun b ob there => Heap.get?_push_of_some _ there
  have here : (s.heap.push (sObj "set" (fresh w))).get? s.heap.objs.size = some (sObj "set" (fresh w)) := Heap.get?_push_size _ rfl
  have size : (s.heap.push (sObj "set" (fresh w))).objs.size = s.heap.objs.size + 1 := Heap.size_push ..
  refine init_tx (s := { s with heap := s.heap.push (sObj "set" (fresh w)) }) (T := T) xs here B now1 (ty _ now1) ns nf nd few (W _ _ hh (fun ob there => absurd (Heap.lt_size there) (by show ¬ (s.heap.push (sObj "set" (fresh w))).objs.size < s.heap.objs.size; rw [size]; omega))) texts (start _ now1) (by rw [show ({ s with heap := s.heap.push (sObj "set" (fresh w)) } : Shared).heap.objs.size = s.heap.objs.size + 1 from size]; exact apart) fun h' tk kept S => ?_
  exact ⟨rfl, hand h' tk (fun b ob there => kept b ob (fun z => absurd (Heap.lt_size there) (by rw [z]; exact Nat.lt_irrefl _)) (Heap.get?_push_of_some _ there)) S⟩
end
/-! ### over the layer -/
def SetSO (w : World) (a : Addr) (l : List Str) : HO := .ext fun h => SetTx w h a l
theorem setSO_new {P : Program} {w : World} {H : Hp} {h : Heap} {a : Addr} {l : List Str} (S : SetTx w h a l) : ObjOk P w H h a (SetSO w a l) := by
  obtain ⟨D, there, _⟩ := S.ex
  exact ⟨S, ⟨_, there⟩, fun h1 h2 z k => z.at k⟩
theorem setSO_get {X : Cx} {pins : List (Addr × Obj)} {σ : L2.St} {H : Hp} {s : Shared} {a : Addr} {l : List Str} (inv : Inv X pins σ H s) (at_a : H a = some (SetSO X.w a l)) : SetTx X.w s.heap a l := (inv.hok a _ at_a).1
/-- the members of set(xs) -/
def members (xs : List Str) : List Str := xs.foldl addS []
theorem strs_place {xs : List Str} {us : List Value} (r : Vals (xs.map V.str) us) {i : Nat} {v : Value} (h : us.toArray[i]? = some v) : ∃ x t, xs[i]? = some x ∧ v = .str x t := by
  have h2 : us[i]? = some v := by simpa using h
  induction xs generalizing us i with
  | nil => cases r; cases h2
  | cons x xs ih =>
    cases r with
    | @cons _ u _ us head tail =>
      cases i with
      | zero =>
        obtain ⟨t, rfl⟩ := head
        exact ⟨x, t, rfl, (Option.some.inj h2).symm⟩
      | succ i => exact ih tail (by simpa using h2) (by simpa using h2)
theorem call_setTexts {X : Cx} (calm : X.calm = true) : CallR X (.type "set") (fun given H Q => ∃ (p : Addr) (xs : List Str), given = [.ref p] ∧ (SqL X.K H p (xs.map V.str) ∨ SqT X.K H p (xs.map V.str)) ∧ xs.length ≤ 1000 ∧ ∀ a, H a = none → Q (.ref a) (upd H a (SetSO X.w a (members xs)))) :=
  fun pins s σ H given held Q inv rel ask => by
    rcases ask with ⟨p, xs, rfl, stands, few, hand⟩
    match held, rel with
    | [_], .cons rfl .nil =>
      have small : xs.length < scanBound := by unfold scanBound; omega
      have out : ∀ h' tk, (∀ b ob, s.heap.get? b = some ob → h'.get? b = some ob) → SetTx X.w h' s.heap.objs.size (xs.foldl addS []) → EP X pins σ Q (.ref s.heap.objs.size) { s with heap := h', toks := tk } := fun h' tk kept S =>
        ⟨.ref _, upd H s.heap.objs.size (SetSO X.w s.heap.objs.size (members xs)), inv.laid kept (Nat.le_refl _) (setSO_new S), rfl, hand _ (inv.hok.fresh (Nat.le_refl _))⟩
      rcases stands with stands | stands
      · obtain ⟨us, vals, plain, _⟩ := inv.list stands
        have num : us.toArray.size = xs.length := by rw [List.size_toArray, ← vals.length, List.length_map]
        have isl := plain.isList
        obtain ⟨ob, there, _⟩ := id isl
        refine call_set_tx (T := "list") xs (begins_list p us.toArray) isl (fun s' h => let ⟨o, ho, hc, _⟩ := h; ⟨o, ho, hc⟩) PySem.F.sub_list_set PySem.F.sub_list_frozenset (by decide) small (inv.ok.hd calm) (fp := fun I => [I, p]) (St := fun I i h => h.IsListIter I p i ∧ h.IsList p us.toArray)
          (fun A' I hh new => num ▸ Walks.list hh I p (fun z => new ob (z ▸ there)) us.toArray) (fun i v h => strs_place vals h) (fun h hl => ⟨⟨_, Heap.get?_push_size _ rfl, rfl, rfl⟩, hl.at fun o e => Heap.get?_push_of_some _ e⟩) ?_ out
        intro z
        rcases List.mem_cons.mp z with z | z
        · exact absurd z (Nat.ne_of_lt (Nat.lt_succ_self _))
        · exact absurd (Heap.lt_size there) (by rw [← List.mem_singleton.mp z]; exact Nat.lt_irrefl _)
      · obtain ⟨us, vals, ist, _⟩ := inv.tuple stands
        have num : us.toArray.size = xs.length := by rw [List.size_toArray, ← vals.length, List.length_map]
        have ist2 : s.heap.IsTuple p us.toArray := ist
        obtain ⟨ob, there, _⟩ := id ist2
        refine call_set_tx (T := "tuple") xs (begins_tuple p us.toArray) ist2 (fun s' h => let ⟨o, ho, hc, _⟩ := h; ⟨o, ho, hc⟩) PySem.F.sub_tuple_set PySem.F.sub_tuple_frozenset (by decide) small (inv.ok.hd calm) (fp := fun I => [I, p]) (St := fun I i h => h.IsTupleIter I p i ∧ h.IsTuple p us.toArray)
          (fun A' I hh new => num ▸ Walks.tuple hh I p (fun z => new ob (z ▸ there)) us.toArray) (fun i v h => strs_place vals h) (fun h hl => ⟨⟨_, Heap.get?_push_size _ rfl, rfl, rfl⟩, hl.at fun o e => Heap.get?_push_of_some _ e⟩) ?_ out
        intro z
        rcases List.mem_cons.mp z with z | z
        · exact absurd z (Nat.ne_of_lt (Nat.lt_succ_self _))
        · exact absurd (Heap.lt_size there) (by rw [← List.mem_singleton.mp z]; exact Nat.lt_irrefl _)
end Tm

/-! sorted(s), s a set of texts -/
namespace Tm
open PySem PySem.Spec PySem.Calls PyProof.Rows L2 PySem.Froz
theorem perm_full {α : Type} : ∀ (l m : List α), l.Nodup → (∀ x, x ∈ l → x ∈ m) → l.length = m.length → l.Perm m
  | [], m, _, _, h => by
    have e : m = [] := List.eq_nil_of_length_eq_zero h.symm
    rw [e]
  | x :: l, m, nd, sub, h => by
    obtain ⟨u, v, rfl⟩ := List.append_of_mem (sub x List.mem_cons_self)
    have apart := List.nodup_cons.mp nd
    have rest := perm_full l (u ++ v) apart.2 (fun y hy => ?_) (by simp at h ⊢; omega)
    · exact (rest.cons x).trans List.perm_middle.symm
    · have hm := sub y (List.mem_cons_of_mem _ hy)
      have ne : y ≠ x := fun z => apart.1 (z ▸ hy)
      simp only [List.mem_append, List.mem_cons] at hm ⊢
      rcases hm with hm | hm | hm
      · exact .inl hm
      · exact absurd hm ne
      · exact .inr hm
theorem texts_of {P : Program} {w : World} {es : Array (Int × Value)} {ep : Nat} {t : SetTable} {l : List Str} {cells : List Value} (F : TxOk P w (es, ep, t) l) (nodup : l.Nodup) (perm : cells.Perm (es.toList.map (·.2))) : ∃ ss : List Str, StrsAre cells ss ∧ ss.Perm l := by
  have each : ∀ v ∈ cells, ∃ x u, v = Value.str x u := fun v hv => by
    obtain ⟨e, he, rfl⟩ := List.mem_map.mp (perm.mem_iff.mp hv)
    obtain ⟨⟨k, is, _⟩, _⟩ := F.el e he
    obtain ⟨u, e2⟩ := Value.isStrOf_shape is
    exact ⟨k, u, e2⟩
  refine ⟨cells.map strOf, strsAre_map cells each, ?_⟩
  have num : cells.length = l.length := by rw [perm.length_eq, List.length_map, Array.length_toList]; exact F.sz
  have inside : ∀ k, k ∈ l → k ∈ cells.map strOf := fun k hk => by
    obtain ⟨e, he, is⟩ := (F.mem k).mp hk
    refine List.mem_map.mpr ⟨e.2, perm.mem_iff.mpr (List.mem_map.mpr ⟨e, he, rfl⟩), ?_⟩
    obtain ⟨u, e2⟩ := Value.isStrOf_shape is
    rw [e2]
    rfl
  exact (perm_full l _ nodup inside (by rw [List.length_map, num])).symm
theorem call_sortedTexts {X : Cx} (calm : X.calm = true) : CallR X (.builtin "sorted") (fun given H Q => ∃ (a : Addr) (l : List Str), given = [.ref a] ∧ H a = some (SetSO X.w a l) ∧ l.length ≤ 1000 ∧
    ∀ (up : List Str) (p : Addr), up.Perm l → sortedS up = true → H p = none → Q (.ref p) (upd H p (.lst (up.map V.str)))) :=
  fun pins s σ H given held Q inv rel ask => by
    rcases ask with ⟨a, l, rfl, at_a, few, hand⟩
    match held, rel with
    | [_], .cons rfl .nil =>
      obtain ⟨⟨⟨es, ep, t⟩, there, ok, ris, led⟩, nodup⟩ := setSO_get inv at_a
      have F := ok X.prog
      have num : es.size = l.length := F.sz
      apply call_function_entry kind_sorted plain_sorted entry_sorted (args_sorted1 _)
      show wpAny _ _ (collect (.ref a) >>= fun vs => newList vs >>= fun l => holding [l] (call (.builtin "list.sort") [l] []) >>= fun _ => ret l) _ _ s
      apply wpAny_bind
      refine collect_set (es := es) (ep := ep) (t := t) (inv.ok.hd calm) ⟨_, there, rfl, rfl⟩ F.fit (by rw [num]; unfold scanBound; omega) ris led ?_
      intro s1 cells kept grown gens os perm
      have len : cells.length = l.length := by rw [perm.length_eq, List.length_map, Array.length_toList, num]
      have mid : Inv X pins σ H s1 := inv.call' (ch := []) os (Un.kept kept) (inv.hok.kept kept) (by rw [gens]; exact inv.bare) (fun b hb => by cases hb)
      have room : cells.length ≤ sizeLine := by rw [len]; exact Nat.le_trans few (by decide)
      obtain ⟨ss, alls, same⟩ : ∃ ss : List Str, StrsAre cells ss ∧ ss.Perm l := texts_of F nodup perm
      apply wpAny_bind
      apply wpAny_newList (hsz := room)
      have new : (s1.heap.push { cls := .type "list", data := .seq cells.toArray }).get? s1.heap.objs.size = some (seqObj "list" cells.toArray 0) := Heap.get?_push_size _ rfl
      have still : ∀ b o, s1.heap.get? b = some o → (s1.heap.push { cls := .type "list", data := .seq cells.toArray }).get? b = some o := fun b o e => Heap.get?_push_of_some _ e
      have bigger : s1.heap.objs.size < (s1.heap.push { cls := .type "list", data := .seq cells.toArray }).objs.size := Heap.lt_size new
      apply wpAny_bind
      apply wpAny_holding
      refine wpAny_call_entry (T := "list") slot_list_sort ⟨_, new, rfl⟩ entry_list_sort ?_ (args_list_sort _)
      refine list_sort_treeKAny strKind_oneLt new alls.keysOf (fun v₁ v₂ rest e => keyKind_strs (by rw [← e]; exact alls)) room fun st' hp hs => ?_
      obtain ⟨up, whole, order, rise⟩ := sorted_out_str alls hp hs
      refine ⟨_, rfl, wpAny_pure ⟨_, rfl, V.ref s1.heap.objs.size, upd H s1.heap.objs.size (.lst (up.map V.str)), ?_, rfl, hand up _ (order.trans same) rise (mid.hok.fresh (Nat.le_refl _))⟩⟩
      obtain ⟨stamp, there2⟩ := sortedHeap_at (out := (arrOf st').map (·.2)) new
      refine mid.laid (t' := s1.toks) (fun b o e => ?_) (Nat.le_refl _) ⟨?_, ((arrOf st').map (·.2)).toList, stamp, vals_of_strs whole, there2⟩
      · rw [sortedHeap_old (Nat.ne_of_lt (Heap.lt_size e)) (Nat.lt_trans (Heap.lt_size e) bigger)]
        exact still b o e
      · rw [List.length_map, (order.trans same).length_eq]
        exact Nat.le_trans few (by decide)
end Tm

/-! how often a text stands in a list of texts -/
namespace Tm
open PySem PySem.Spec PyProof.Rows L2
theorem count_strs (z : Str) : ∀ ys : List Str, countIn (.str z) (ys.map PyData.str) = ((ys.count z : Nat) : Int)
  | [] => rfl
  | y :: r => by
    show (if same (.str y) (.str z) then (1 : Int) else 0) + countIn (.str z) (r.map PyData.str) = _
    have e : same (.str y) (.str z) = (y == z) := by rfl
    rw [count_strs z r, e, List.count_cons]
    by_cases h : y = z
    · subst h; simp; omega
    · have h2 : (y == z) = false := by simpa using h
      rw [h2]; simp
theorem mt_countS {X : Cx} : MtR X "list.count" (fun x xs H Q => ∃ (p : Addr) (ys : List Str) (z : Str), x = .ref p ∧ xs = [.str z] ∧ SqL X.K H p (ys.map V.str) ∧ Q (.int ((ys.count z : Nat) : Int)) H) := by
  intro pins s σ H x xs v us Q inv rx rxs ask
  obtain ⟨p, ys, z, rfl, rfl, stands, hand⟩ := ask
  cases rx
  match us, rxs with
  | [_], .cons ⟨t, rfl⟩ .nil =>
    obtain ⟨its, vals, plain, _⟩ := inv.list stands
    have sa : StrsAre its ys := vals.strs
    apply count_list_strs plain.isList sa
    rw [count_strs]
    exact ⟨.int _, H, inv.tok _, ⟨_, rfl⟩, hand⟩
end Tm

/-! sums of lists of texts -/
namespace Tm
open PySem PySem.Spec PyProof.Rows L2
/-! ### members -/
theorem addS_mem {l : List Str} {k z : Str} : z ∈ addS l k ↔ z = k ∨ z ∈ l := by
  unfold addS
  split
  · rename_i h
    exact ⟨.inr, fun x => x.elim (fun e => e ▸ h) id⟩
  · exact List.mem_cons
theorem addS_nodup {l : List Str} {k : Str} (h : l.Nodup) : (addS l k).Nodup := by
  unfold addS
  split
  · exact h
  · rename_i n
    exact List.nodup_cons.mpr ⟨n, h⟩
theorem fold_mem : ∀ (xs l : List Str) (z : Str), z ∈ xs.foldl addS l ↔ z ∈ l ∨ z ∈ xs
  | [], l, z => by simp
  | x :: r, l, z => by
    rw [List.foldl_cons, fold_mem r, addS_mem, List.mem_cons]
    constructor
    · rintro ((h | h) | h)
      · exact .inr (.inl h)
      · exact .inl h
      · exact .inr (.inr h)
    · rintro (h | h | h)
      · exact .inl (.inr h)
      · exact .inl (.inl h)
      · exact .inr h
theorem fold_nodup : ∀ (xs l : List Str), l.Nodup → (xs.foldl addS l).Nodup
  | [], _, h => h
  | x :: r, l, h => fold_nodup r (addS l x) (addS_nodup h)
theorem fold_len : ∀ (xs l : List Str), (xs.foldl addS l).length ≤ l.length + xs.length
  | [], _ => Nat.le_refl _
  | x :: r, l => by
    have h := fold_len r (addS l x)
    have g := addS_len l x
    rw [List.foldl_cons, List.length_cons]
    omega
theorem members_mem {xs : List Str} {z : Str} : z ∈ members xs ↔ z ∈ xs := by
  unfold members
  rw [fold_mem]
  simp
theorem members_nodup (xs : List Str) : (members xs).Nodup := fold_nodup xs [] .nil
theorem members_len (xs : List Str) : (members xs).length ≤ xs.length := by
  have h := fold_len xs []
  unfold members
  simpa using h
theorem nodup_len {α : Type} : ∀ (l m : List α), l.Nodup → (∀ x, x ∈ l → x ∈ m) → l.length ≤ m.length
  | [], m, _, _ => Nat.zero_le _
  | x :: l, m, nd, sub => by
    obtain ⟨u, v, rfl⟩ := List.append_of_mem (sub x List.mem_cons_self)
    have apart := List.nodup_cons.mp nd
    have rest := nodup_len l (u ++ v) apart.2 fun y hy => by
      have hm := sub y (List.mem_cons_of_mem _ hy)
      have ne : y ≠ x := fun z => apart.1 (z ▸ hy)
      simp only [List.mem_append, List.mem_cons] at hm ⊢
      rcases hm with hm | hm | hm
      · exact .inl hm
      · exact absurd hm ne
      · exact .inr hm
    simp at rest ⊢
    omega
/-! ### ascending lists -/
def leS (a b : Str) : Prop := a.cps.toList ≤ b.cps.toList
theorem rising_pair : ∀ (l : List Str) (p : Str), risingS p l = true → (p :: l).Pairwise leS
  | [], p, _ => List.pairwise_singleton _ _
  | d :: r, p, h => by
    have h' : (!ltCps d.cps.toList p.cps.toList && risingS d r) = true := h
    rcases Bool.and_eq_true_iff.mp h' with ⟨g1, g2⟩
    have rest := rising_pair r d g2
    have pd : leS p d := by
      have g3 : ltCps d.cps.toList p.cps.toList = false := by simpa using g1
      rw [ltCps_eq] at g3
      exact List.not_lt.mp (of_decide_eq_false g3)
    refine List.pairwise_cons.mpr ⟨fun x hx => ?_, rest⟩
    rcases List.mem_cons.mp hx with rfl | hx
    · exact pd
    · exact List.le_trans pd ((List.pairwise_cons.mp rest).1 x hx)
theorem sorted_pair (l : List Str) (h : sortedS l = true) : l.Pairwise leS := by
  cases l with
  | nil => exact .nil
  | cons p l => exact rising_pair l p h
theorem sorted_one {l m : List Str} (h1 : sortedS l = true) (h2 : sortedS m = true) (p : l.Perm m) : l = m := by
  refine List.Perm.eq_of_pairwise (le := leS) (fun a b _ _ x y => ?_) (sorted_pair l h1) (sorted_pair m h2) p
  have e : a.cps.toList = b.cps.toList := List.le_antisymm x y
  rw [← txt_of a, ← txt_of b, e]
/-! ### how many of the rows hold a text -/
def cnt (z : Str) (rs : List (List Str)) : Nat := rs.countP fun r => decide (z ∈ r)
structure Sums (rs : List (List Str)) (ys : List Str) : Prop where
  sort : sortedS ys = true
  nodup : ys.Nodup
  mem : ∀ z, z ∈ ys ↔ cnt z rs % 2 = 1
theorem Sums.one {rs : List (List Str)} {ys zs : List Str} (a : Sums rs ys) (b : Sums rs zs) : ys = zs := by
  refine sorted_one a.sort b.sort ?_
  exact (List.perm_ext_iff_of_nodup a.nodup b.nodup).mpr fun z => (a.mem z).trans (b.mem z).symm
theorem cnt_snoc (z : Str) (rs : List (List Str)) (r : List Str) : cnt z (rs ++ [r]) = cnt z rs + (if z ∈ r then 1 else 0) := by
  unfold cnt
  rw [List.countP_append, List.countP_singleton]
  by_cases h : z ∈ r <;> simp [h]
/-! ### the dict of the texts that are there -/
def onesK (l : List Str) : List (Key × V) := l.map fun z => (Sum.inr z, V.bl true)
def turnL (l : List Str) (z : Str) : List Str := if z ∈ l then l.filter (fun x => decide (x ≠ z)) else l ++ [z]
theorem ones_val (l : List Str) (z : Str) : valV (onesK l) (Sum.inr z) = if z ∈ l then some (V.bl true) else none := by
  induction l with
  | nil => rfl
  | cons x r ih =>
    show valV ((Sum.inr x, V.bl true) :: onesK r) (Sum.inr z) = _
    by_cases h : x = z
    · subst h
      rw [valV_pos rfl]
      simp
    · rw [valV_neg (fun e => h (Sum.inr.inj e)), ih]
      have h2 : ¬ z = x := fun e => h e.symm
      simp [h2]
theorem ones_drop (l : List Str) (z : Str) : dropK (onesK l) (Sum.inr z) = onesK (l.filter fun x => decide (x ≠ z)) := by
  unfold dropK onesK
  rw [List.filter_map]
  congr 1
  apply List.filter_congr
  intro x _
  show decide ((Sum.inr x : Key) ≠ Sum.inr z) = decide (x ≠ z)
  by_cases h : x = z
  · subst h; simp
  · have h2 : (Sum.inr x : Key) ≠ Sum.inr z := fun e => h (Sum.inr.inj e)
    have h3 : x ≠ z := h
    rw [decide_eq_true h3, decide_eq_true h2]
theorem ones_put {l : List Str} {z : Str} (h : z ∉ l) : putK (onesK l) (Sum.inr z) (V.bl true) = onesK (l ++ [z]) := by
  rw [putK_new _ (by rw [ones_val, if_neg h])]
  unfold onesK
  rw [List.map_append]
  rfl
theorem turn_nodup {l : List Str} {z : Str} (h : l.Nodup) : (turnL l z).Nodup := by
  unfold turnL
  split
  · exact h.filter _
  · rename_i n
    rw [List.nodup_append]
    refine ⟨h, List.nodup_cons.mpr ⟨List.not_mem_nil, .nil⟩, fun a ha b hb e => n ?_⟩
    rw [← List.mem_singleton.mp hb, ← e]
    exact ha
theorem turn_mem {l : List Str} {z x : Str} : x ∈ turnL l z ↔ (x ∈ l ∧ x ≠ z) ∨ (x = z ∧ z ∉ l) := by
  unfold turnL
  by_cases h : z ∈ l
  · rw [if_pos h, List.mem_filter]
    simp [h]
  · rw [if_neg h, List.mem_append, List.mem_singleton]
    constructor
    · rintro (q | q)
      · exact .inl ⟨q, fun e => h (e ▸ q)⟩
      · exact .inr ⟨q, h⟩
    · rintro (q | q)
      · exact .inl q.1
      · exact .inr q.1
/-- all of several texts turned, each once -/
theorem turns_mem : ∀ (ys l : List Str) (x : Str), ys.Nodup → (x ∈ ys.foldl turnL l ↔ ((x ∈ l ∧ x ∉ ys) ∨ (x ∉ l ∧ x ∈ ys)))
  | [], l, x, _ => by simp
  | y :: r, l, x, nd => by
    have apart := List.nodup_cons.mp nd
    rw [List.foldl_cons, turns_mem r _ x apart.2, turn_mem, List.mem_cons]
    by_cases e : x = y
    · subst e
      by_cases hl : x ∈ l <;> simp [hl, apart.1]
    · by_cases hl : x ∈ l <;> by_cases hr : x ∈ r <;> simp [hl, hr, e]
theorem turns_nodup : ∀ (ys l : List Str), l.Nodup → (ys.foldl turnL l).Nodup
  | [], _, h => h
  | y :: r, l, h => turns_nodup r (turnL l y) (turn_nodup h)
/-! ### promises -/
def RowsAt (K : PySem.W.Frag) (H : Hp) (ps : List Addr) (rs : List (List Str)) : Prop :=
  ps.length = rs.length ∧ ∀ (i : Nat) (p : Addr) (r : List Str), ps[i]? = some p → rs[i]? = some r → (SqL K H p (r.map V.str) ∨ SqT K H p (r.map V.str))
theorem same_tup {K : PySem.W.Frag} {H H' : Hp} {a : Addr} {xs : List V} (e : Same H H') (h : SqT K H a xs) : SqT K H' a xs :=
  h.imp (fun seen => seen.imp (e a _) (fun ⟨ob, at_a⟩ => ⟨ob, e a _ at_a⟩)) id
theorem RowsAt.same {K : PySem.W.Frag} {H H' : Hp} {ps : List Addr} {rs : List (List Str)} (h : RowsAt K H ps rs) (s : Same H H') : RowsAt K H' ps rs :=
  ⟨h.1, fun i p r hp hr => (h.2 i p r hp hr).imp (fun x => s.seq x) (fun x => same_tup s x)⟩
def spTurn : Sp := fun vs H Q _ => ∃ (d : Addr) (l : List Str) (z : Str), vs = [.ref d, .str z] ∧ H d = some (.dK (onesK l)) ∧ l.length ≤ 1000 ∧ Q .non (upd H d (.dK (onesK (turnL l z))))
def Few44 (rs : List (List Str)) (U : List Str) : Prop := U.length ≤ 60 ∧ rs.length ≤ 1000 ∧ ∀ r ∈ rs, r.length ≤ 1000 ∧ ∀ z ∈ r, z ∈ U
def spSumL (K : PySem.W.Frag) : Sp := fun vs H Q _ => ∃ (p : Addr) (ps : List Addr) (rs : List (List Str)) (U : List Str), vs = [.ref p] ∧ SqL K H p (ps.map V.ref) ∧ RowsAt K H ps rs ∧ Few44 rs U ∧
  ∀ H' q ys, Same H H' → H q = none → H' q = some (.lst (ys.map V.str)) → Sums rs ys → Q (.ref q) H'
def spSumT (K : PySem.W.Frag) : Sp := fun vs H Q _ => ∃ (p : Addr) (ps : List Addr) (rs : List (List Str)) (U : List Str), vs = [.ref p] ∧ SqT K H p (ps.map V.ref) ∧ RowsAt K H ps rs ∧ Few44 rs U ∧
  ∀ H' q ys, Same H H' → H q = none → H' q = some (.lst (ys.map V.str)) → Sums rs ys → Q (.ref q) H'
def spLSum (K : PySem.W.Frag) : Sp := fun vs H Q _ => ∃ (p : Addr) (ps : List Addr) (rs : List (List Str)), vs = [.ref p] ∧ SqL K H p (ps.map V.ref) ∧ RowsAt K H ps rs ∧ rs.flatten.length ≤ 1000 ∧ (∀ r ∈ rs, r.Nodup) ∧
  ∀ H' q ys, Same H H' → H q = none → H' q = some (.lst (ys.map V.str)) → Sums rs ys → Q (.ref q) H'
theorem flat_cnt (z : Str) : ∀ rs : List (List Str), (∀ r ∈ rs, r.Nodup) → rs.flatten.count z = cnt z rs
  | [], _ => rfl
  | r :: rs, h => by
    have ih := flat_cnt z rs fun x hx => h x (List.mem_cons_of_mem _ hx)
    have e : r.count z = if z ∈ r then 1 else 0 := by
      by_cases hz : z ∈ r
      · rw [if_pos hz]
        have le := List.nodup_iff_count.mp (h r List.mem_cons_self) z
        have ge := List.count_pos_iff.mpr hz
        omega
      · rw [if_neg hz]
        exact List.count_eq_zero_of_not_mem hz
    rw [List.flatten_cons, List.count_append, ih, e]
    unfold cnt
    rw [List.countP_cons]
    by_cases hz : z ∈ r <;> simp [hz]
    omega
def rCountS (K : PySem.W.Frag) : V → List V → Hp → VK → Prop := fun x xs H Q => ∃ (p : Addr) (ys : List Str) (z : Str), x = .ref p ∧ xs = [.str z] ∧ SqL K H p (ys.map V.str) ∧ Q (.int ((ys.count z : Nat) : Int)) H
theorem pair_rising : ∀ (l : List Str) (p : Str), (p :: l).Pairwise leS → risingS p l = true
  | [], _, _ => rfl
  | d :: r, p, h => by
    have h1 := List.pairwise_cons.mp h
    show (!ltCps d.cps.toList p.cps.toList && risingS d r) = true
    have g : ltCps d.cps.toList p.cps.toList = false := by
      rw [ltCps_eq]
      exact decide_eq_false (List.not_lt.mpr (h1.1 d List.mem_cons_self))
    rw [g, pair_rising r d h1.2]
    rfl
theorem pair_sorted (l : List Str) (h : l.Pairwise leS) : sortedS l = true := by
  cases l with
  | nil => rfl
  | cons p l => exact pair_rising l p h
theorem sorted_filter {l : List Str} (h : sortedS l = true) (f : Str → Bool) : sortedS (l.filter f) = true := pair_sorted _ ((sorted_pair l h).filter f)
/-! ### rules as they stand within a comprehension -/
def rListOf (K : PySem.W.Frag) : List V → Hp → VK → Prop := fun xs H Q => ∃ p ys, xs = [.ref p] ∧ (SqL K H p ys ∨ SqT K H p ys) ∧ ∀ l, H l = none → Q (.ref l) (upd H l (.lst ys))
theorem cr_listOf {X : Cx} : CallR X (.type "list") (rListOf X.K) := call_list_of
def rSetT (K : PySem.W.Frag) (w : World) : List V → Hp → VK → Prop := fun given H Q => ∃ (p : Addr) (xs : List Str), given = [.ref p] ∧ (SqL K H p (xs.map V.str) ∨ SqT K H p (xs.map V.str)) ∧ xs.length ≤ 1000 ∧ ∀ a, H a = none → Q (.ref a) (upd H a (SetSO w a (members xs)))
theorem cr_setT {X : Cx} (calm : X.calm = true) : CallR X (.type "set") (rSetT X.K X.w) := call_setTexts calm
def rSortT (w : World) : List V → Hp → VK → Prop := fun given H Q => ∃ (a : Addr) (l : List Str), given = [.ref a] ∧ H a = some (SetSO w a l) ∧ l.length ≤ 1000 ∧ ∀ (up : List Str) (p : Addr), up.Perm l → sortedS up = true → H p = none → Q (.ref p) (upd H p (.lst (up.map V.str)))
theorem cr_sortT {X : Cx} (calm : X.calm = true) : CallR X (.builtin "sorted") (rSortT X.w) := call_sortedTexts calm
theorem tupOf {X : Cx} : CallR X (.type "tuple") (fun given H Q => ∃ p ys, given = [.ref p] ∧ H p = some (.lst ys) ∧ ∀ l, H l = none → Q (.ref l) (upd H l (.tup ys))) :=
  fun pins s σ H given held Q inv rel ask => by
    obtain ⟨p, ys, e, hp, q⟩ := ask
    exact call_tuple_of pins s σ H given held Q inv rel ⟨p, ys, e, .inl ⟨SqL.of hp, q⟩⟩
/-! ### rows in memory -/
structure RowsL (H : Hp) (qs : List Addr) (rs : List (List Str)) : Prop where
  len : qs.length = rs.length
  at_ : ∀ (i : Nat) (q : Addr) (r : List Str), qs[i]? = some q → rs[i]? = some r → H q = some (.lst (r.map V.str))
theorem RowsL.nil (H : Hp) : RowsL H [] [] := ⟨rfl, fun i q r h => by cases h⟩
theorem RowsL.same {H H' : Hp} {qs : List Addr} {rs : List (List Str)} (h : RowsL H qs rs) (s : Same H H') : RowsL H' qs rs := ⟨h.len, fun i q r hq hr => s _ _ (h.at_ i q r hq hr)⟩
theorem RowsL.kp {b : Addr} {H H' : Hp} {qs : List Addr} {rs : List (List Str)} (h : RowsL H qs rs) (k : Kp b H H') (n : ∀ q ∈ qs, q ≠ b) : RowsL H' qs rs :=
  ⟨h.len, fun i q r hq hr => k _ _ (n q (List.mem_of_getElem? hq)) (h.at_ i q r hq hr)⟩
theorem RowsL.put {H : Hp} {o : Addr} {ob : HO} {qs : List Addr} {rs : List (List Str)} (h : RowsL H qs rs) (n : ∀ q ∈ qs, q ≠ o) : RowsL (upd H o ob) qs rs :=
  ⟨h.len, fun i q r hq hr => by rw [upd_ne (n q (List.mem_of_getElem? hq))]; exact h.at_ i q r hq hr⟩
theorem RowsL.snoc {H : Hp} {qs : List Addr} {rs : List (List Str)} {q : Addr} {r : List Str} (h : RowsL H qs rs) (hq : H q = some (.lst (r.map V.str))) : RowsL H (qs ++ [q]) (rs ++ [r]) := by
  refine ⟨by rw [List.length_append, List.length_append, h.len]; rfl, fun i a c ha hc => ?_⟩
  by_cases lt : i < qs.length
  · rw [List.getElem?_append_left lt] at ha
    rw [List.getElem?_append_left (by rw [← h.len]; exact lt)] at hc
    exact h.at_ i a c ha hc
  · rw [List.getElem?_append_right (by omega)] at ha
    rw [List.getElem?_append_right (by rw [← h.len]; omega)] at hc
    have hi : i - qs.length = 0 := by
      have := (List.getElem?_eq_some_iff.mp ha).1
      simp at this
      omega
    rw [hi] at ha
    rw [← h.len, hi] at hc
    cases ha
    cases hc
    exact hq
theorem RowsL.rows {K : PySem.W.Frag} {H : Hp} {qs : List Addr} {rs : List (List Str)} (h : RowsL H qs rs) : RowsAt K H qs rs := ⟨h.len, fun i q r hq hr => .inl (SqL.of (h.at_ i q r hq hr))⟩
theorem RowsAt.twice {K : PySem.W.Frag} {H : Hp} {qs : List Addr} {rs : List (List Str)} (h : RowsAt K H qs rs) : RowsAt K H (qs ++ qs) (rs ++ rs) := by
  refine ⟨by rw [List.length_append, List.length_append, h.1], fun i q r hq hr => ?_⟩
  by_cases lt : i < qs.length
  · rw [List.getElem?_append_left lt] at hq
    rw [List.getElem?_append_left (by rw [← h.1]; exact lt)] at hr
    exact h.2 i q r hq hr
  · rw [List.getElem?_append_right (by omega)] at hq
    rw [List.getElem?_append_right (by rw [← h.1]; omega), ← h.1] at hr
    exact h.2 _ q r hq hr
theorem dp_txts {K : PySem.W.Frag} {H : Hp} : ∀ zs : List Str, DpAll K H (zs.map V.str) (zs.map PyData.str)
  | [] => .nil
  | z :: r => .cons (.str z) (dp_txts r)
theorem dp_rows {K : PySem.W.Frag} {H : Hp} : ∀ (qs : List Addr) (rs : List (List Str)), RowsL H qs rs → DpAll K H (qs.map V.ref) (rs.map fun r => PyData.list (r.map PyData.str))
  | [], [], _ => .nil
  | [], _ :: _, h => absurd h.len (by simp)
  | _ :: _, [], h => absurd h.len (by simp)
  | q :: qs, r :: rs, h => .cons (.lst (SqL.of (h.at_ 0 q r rfl rfl)) (dp_txts r)) (dp_rows qs rs ⟨Nat.succ.inj h.len, fun i a c ha hc => h.at_ (i + 1) a c ha hc⟩)
theorem Sums.empty {rs : List (List Str)} {ys : List Str} (h : Sums (rs ++ rs) ys) : ys = [] := by
  cases ys with
  | nil => rfl
  | cons y r =>
    have e := (h.mem y).mp List.mem_cons_self
    unfold cnt at e
    rw [List.countP_append] at e
    omega
theorem Sums.nil {ys : List Str} (h : Sums [] ys) : ys = [] := Sums.empty (rs := []) h
/-- the same members row by row -/
theorem cnt_members (z : Str) : ∀ (rs ms : List (List Str)), rs.length = ms.length → (∀ (i : Nat) (r m : List Str), rs[i]? = some r → ms[i]? = some m → (z ∈ m ↔ z ∈ r)) → cnt z ms = cnt z rs
  | [], [], _, _ => rfl
  | [], _ :: _, h, _ => absurd h (by simp)
  | _ :: _, [], h, _ => absurd h (by simp)
  | r :: rs, m :: ms, h, e => by
    have ih := cnt_members z rs ms (Nat.succ.inj h) fun i r m hr hm => e (i + 1) r m hr hm
    have e0 := e 0 r m rfl rfl
    unfold cnt at ih ⊢
    rw [List.countP_cons, List.countP_cons, ih]
    by_cases hz : z ∈ r
    · simp [hz, e0.mpr hz]
    · have hm : z ∉ m := fun q => hz (e0.mp q)
      simp [hz, hm]
theorem eqv_txts {H : Hp} {p q : Addr} {ys : List Str} (hp : H p = some (.lst (ys.map V.str))) (hq : H q = some (.lst (ys.map V.str))) (few : ys.length ≤ 10000) : Eqv H 1 (.ref p) (.ref q) := by
  refine .lst hp hq rfl (by rw [List.length_map]; exact few) fun i x y hx hy => ?_
  rw [hx] at hy
  cases hy
  obtain ⟨z, _, rfl⟩ := List.mem_map.mp (List.mem_of_getElem? hx)
  exact .str _ _
/-! ### data of texts -/
theorem lay_txts : ∀ zs : List Str, (∀ z ∈ zs, PyData.strOk z = true) → PyData.canLayAll0 (zs.map PyData.str) = true
  | [], _ => by simp [PyData.canLayAll0]
  | z :: r, h => by
    have ih := lay_txts r fun x hx => h x (List.mem_cons_of_mem _ hx)
    simp [PyData.canLayAll0, PyData.canLay0, ih, h z List.mem_cons_self]
theorem dep_txts : ∀ zs : List Str, PyData.depthAll (zs.map PyData.str) ≤ 1
  | [] => by simp [PyData.depthAll]
  | z :: r => by
    have ih := dep_txts r
    simp [PyData.depthAll, PyData.depth]
    omega
theorem lay_rows : ∀ rs : List (List Str), (∀ r ∈ rs, ∀ z ∈ r, PyData.strOk z = true) → PyData.canLayAll0 (rs.map fun r => PyData.list (r.map PyData.str)) = true
  | [], _ => by simp [PyData.canLayAll0]
  | r :: rs, h => by
    have ih := lay_rows rs fun x hx => h x (List.mem_cons_of_mem _ hx)
    have h1 := lay_txts r (h r List.mem_cons_self)
    rw [List.map_cons, PyData.canLayAll0, ih, Bool.and_true, PyData.canLay0]
    exact h1
theorem dep_rows : ∀ rs : List (List Str), PyData.depthAll (rs.map fun r => PyData.list (r.map PyData.str)) ≤ 3
  | [] => by simp [PyData.depthAll]
  | r :: rs => by
    have ih := dep_rows rs
    have h1 := dep_txts r
    rw [List.map_cons, PyData.depthAll, PyData.depth]
    omega
theorem shaped_rows {rs : List (List Str)} (h : ∀ r ∈ rs, ∀ z ∈ r, PyData.strOk z = true) : SeqAt.shaped (.list (rs.map fun r => PyData.list (r.map PyData.str))) = true := by
  have d := dep_rows rs
  unfold SeqAt.shaped
  rw [PyData.canLay0, lay_rows rs h, PyData.depth, Bool.true_and]
  exact decide_eq_true (by omega)
theorem eqv_rows {rs : List (List Str)} (h : ∀ r ∈ rs, ∀ z ∈ r, PyData.strOk z = true) : PyData.eqv (.list (rs.map fun r => PyData.list (r.map PyData.str))) (.list (rs.map fun r => PyData.list (r.map PyData.str))) = true :=
  SeqAt.eqv_refl _ (SeqAt.canLay_of_shaped (shaped_rows h))
end Tm

/-! What is wrong with the dicts of a web: the least wrong key. -/
namespace Tm
open PySem PySem.Spec PyProof.Rows L2
inductive Flt where
  | node (n : Int)
  | mark (n : Int)
  | name (z : List Nat)
  | edge (z : List Nat)
  | ok
def leM (a b : Int × Int) : Bool := decide (a.1 ≤ b.1)
def leN (a b : Nam) : Bool := decide (a.name ≤ b.name)
def upM (ms : List (Int × Int)) : List (Int × Int) := ms.mergeSort leM
def upN (ns : List Nam) : List Nam := ns.mergeSort leN
theorem upM_perm (ms : List (Int × Int)) : (upM ms).Perm ms := List.mergeSort_perm ms leM
theorem upN_perm (ns : List Nam) : (upN ns).Perm ns := List.mergeSort_perm ns leN
theorem upM_rise (ms : List (Int × Int)) : ((upM ms).map (·.1)).Pairwise (· ≤ ·) := by
  have h := List.pairwise_mergeSort (le := leM) (fun a b c x y => ?_) (fun a b => ?_) ms
  · exact List.pairwise_map.mpr (h.imp fun z => of_decide_eq_true z)
  · unfold leM at x y ⊢
    have x := of_decide_eq_true x
    have y := of_decide_eq_true y
    exact decide_eq_true (by omega)
  · unfold leM
    by_cases c : a.1 ≤ b.1
    · rw [decide_eq_true c]; rfl
    · rw [decide_eq_true (show b.1 ≤ a.1 by omega)]; simp
theorem upN_rise (ns : List Nam) : ((upN ns).map fun e => txt e.name).Pairwise leS := by
  have h := List.pairwise_mergeSort (le := leN) (fun a b c x y => ?_) (fun a b => ?_) ns
  · refine List.pairwise_map.mpr (h.imp fun {a b} z => ?_)
    show (txt a.name).cps.toList ≤ (txt b.name).cps.toList
    rw [txt_cps, txt_cps]
    exact of_decide_eq_true z
  · unfold leN at x y ⊢
    exact decide_eq_true (List.le_trans (of_decide_eq_true x) (of_decide_eq_true y))
  · unfold leN
    rcases List.le_total a.name b.name with c | c
    · rw [decide_eq_true c]; rfl
    · rw [decide_eq_true c]; simp
theorem upM_of {ms : List (Int × Int)} {ks : List Int} (p : ks.Perm (ms.map (·.1))) (r : ks.Pairwise (· ≤ ·)) : ks = (upM ms).map (·.1) :=
  one_order_int _ _ (p.trans ((upM_perm ms).map _).symm) r (upM_rise ms)
theorem upN_of {ns : List Nam} {ys : List Str} (p : ys.Perm (ns.map fun e => txt e.name)) (r : sortedS ys = true) : ys = (upN ns).map fun e => txt e.name :=
  sorted_one r (pair_sorted _ (upN_rise ns)) (p.trans ((upN_perm ns).map _).symm)
theorem find_at {α : Type} {p : α → Bool} : ∀ {l : List α} {i : Nat} (hi : i < l.length), (∀ x ∈ l.take i, p x = true) → p l[i] = false → l.find? (fun x => !p x) = some l[i]
  | [], i, hi, _, _ => absurd hi (Nat.not_lt_zero _)
  | x :: r, 0, _, _, here => by
    have here : p x = false := here
    rw [List.find?_cons, here]
    rfl
  | x :: r, i + 1, hi, before, here => by
    have b : p x = true := before x List.mem_cons_self
    rw [List.find?_cons, b]
    exact find_at (l := r) (i := i) (Nat.lt_of_succ_lt_succ hi) (fun y hy => before y (List.mem_cons_of_mem _ hy)) here
theorem find_no {α : Type} {p : α → Bool} {l : List α} (h : ∀ x ∈ l, p x = true) : l.find? (fun x => !p x) = none := List.find?_eq_none.mpr fun x hx => by simp [h x hx]
theorem no_find {α : Type} {p : α → Bool} {l : List α} (h : l.find? (fun x => !p x) = none) : ∀ x ∈ l, p x = true := fun x hx => by
  have z := List.find?_eq_none.mp h x hx
  simpa using z
def faultM (ms : List (Int × Int)) : Flt :=
  match (upM ms).find? (fun m => !okNode m.1) with
  | some m => .node m.1
  | none => match (upM ms).find? (fun m => !okMark m.2) with
    | some m => .mark m.1
    | none => .ok
def faultN (ms : List (Int × Int)) (ns : List Nam) : Flt :=
  match (upN ns).find? (fun e => !okName e.name) with
  | some e => .name e.name
  | none => match (upN ns).find? (fun e => !okJoin ms e.lo e.hi) with
    | some e => .edge e.name
    | none => .ok
def fault (ms : List (Int × Int)) (ns : List Nam) : Flt := match faultM ms with
  | .ok => faultN ms ns
  | f => f
def fcode : Flt → Str
  | .node _ => "invalidnode"
  | .mark _ => "invalidmark"
  | .name _ => "invalidname"
  | .edge _ => "invalidedge"
  | .ok => Str.ofString ""
def fval : Flt → V
  | .node n => .int n
  | .mark n => .int n
  | .name z => .str (txt z)
  | .edge z => .str (txt z)
  | .ok => .non
section
variable {ms : List (Int × Int)} {ns : List Nam}
theorem faultM_node {i : Nat} (hi : i < (upM ms).length) (before : ∀ m ∈ (upM ms).take i, okNode m.1 = true) (here : okNode (upM ms)[i].1 = false) : faultM ms = .node (upM ms)[i].1 := by
  unfold faultM
  rw [find_at (p := fun m : Int × Int => okNode m.1) hi before here]
theorem faultM_mark {i : Nat} (nodes : ∀ m ∈ upM ms, okNode m.1 = true) (hi : i < (upM ms).length) (before : ∀ m ∈ (upM ms).take i, okMark m.2 = true) (here : okMark (upM ms)[i].2 = false) : faultM ms = .mark (upM ms)[i].1 := by
  unfold faultM
  rw [find_no (p := fun m : Int × Int => okNode m.1) nodes, find_at (p := fun m : Int × Int => okMark m.2) hi before here]
theorem faultM_ok (nodes : ∀ m ∈ upM ms, okNode m.1 = true) (marks : ∀ m ∈ upM ms, okMark m.2 = true) : faultM ms = .ok := by
  unfold faultM
  rw [find_no (p := fun m : Int × Int => okNode m.1) nodes, find_no (p := fun m : Int × Int => okMark m.2) marks]
theorem ok_faultM (h : faultM ms = .ok) : (∀ m ∈ upM ms, okNode m.1 = true) ∧ ∀ m ∈ upM ms, okMark m.2 = true := by
  unfold faultM at h
  cases e1 : (upM ms).find? (fun m => !okNode m.1) with
  | some m => rw [e1] at h; cases h
  | none =>
  rw [e1] at h
  cases e2 : (upM ms).find? (fun m => !okMark m.2) with
  | some m => rw [e2] at h; cases h
  | none => exact ⟨no_find (p := fun m : Int × Int => okNode m.1) e1, no_find (p := fun m : Int × Int => okMark m.2) e2⟩
theorem faultN_name {i : Nat} (hi : i < (upN ns).length) (before : ∀ e ∈ (upN ns).take i, okName e.name = true) (here : okName (upN ns)[i].name = false) : faultN ms ns = .name (upN ns)[i].name := by
  unfold faultN
  rw [find_at (p := fun e : Nam => okName e.name) hi before here]
theorem faultN_edge {i : Nat} (names : ∀ e ∈ upN ns, okName e.name = true) (hi : i < (upN ns).length) (before : ∀ e ∈ (upN ns).take i, okJoin ms e.lo e.hi = true) (here : okJoin ms (upN ns)[i].lo (upN ns)[i].hi = false) : faultN ms ns = .edge (upN ns)[i].name := by
  unfold faultN
  rw [find_no (p := fun e : Nam => okName e.name) names, find_at (p := fun e : Nam => okJoin ms e.lo e.hi) hi before here]
theorem faultN_ok (names : ∀ e ∈ upN ns, okName e.name = true) (joins : ∀ e ∈ upN ns, okJoin ms e.lo e.hi = true) : faultN ms ns = .ok := by
  unfold faultN
  rw [find_no (p := fun e : Nam => okName e.name) names, find_no (p := fun e : Nam => okJoin ms e.lo e.hi) joins]
theorem ok_faultN (h : faultN ms ns = .ok) : (∀ e ∈ upN ns, okName e.name = true) ∧ ∀ e ∈ upN ns, okJoin ms e.lo e.hi = true := by
  unfold faultN at h
  cases e1 : (upN ns).find? (fun e => !okName e.name) with
  | some m => rw [e1] at h; cases h
  | none =>
  rw [e1] at h
  cases e2 : (upN ns).find? (fun e => !okJoin ms e.lo e.hi) with
  | some m => rw [e2] at h; cases h
  | none => exact ⟨no_find (p := fun e : Nam => okName e.name) e1, no_find (p := fun e : Nam => okJoin ms e.lo e.hi) e2⟩
/-- the faults of the marks are no faults of edges -/
theorem faultM_kind (ms : List (Int × Int)) : (∃ n, faultM ms = .node n) ∨ (∃ n, faultM ms = .mark n) ∨ faultM ms = .ok := by
  unfold faultM
  split
  · exact .inl ⟨_, rfl⟩
  · split
    · exact .inr (.inl ⟨_, rfl⟩)
    · exact .inr (.inr rfl)
theorem faultN_kind (ms : List (Int × Int)) (ns : List Nam) : (∃ z, faultN ms ns = .name z) ∨ (∃ z, faultN ms ns = .edge z) ∨ faultN ms ns = .ok := by
  unfold faultN
  split
  · exact .inl ⟨_, rfl⟩
  · split
    · exact .inr (.inl ⟨_, rfl⟩)
    · exact .inr (.inr rfl)
theorem fault_node {n : Int} (h : faultM ms = .node n) : fault ms ns = .node n := by unfold fault; rw [h]
theorem fault_mark {n : Int} (h : faultM ms = .mark n) : fault ms ns = .mark n := by unfold fault; rw [h]
theorem fault_rest (h : faultM ms = .ok) : fault ms ns = faultN ms ns := by unfold fault; rw [h]
end
/-- dicts as the makers of a web may get them -/
structure NamsOk (H : Hp) (ns : List Nam) : Prop where
  nd : (ns.map (·.name)).Nodup
  few : ns.length < 64
  short : ∀ e ∈ ns, e.name.length ≤ 1000
  pair : ∀ e ∈ ns, H e.pair = some (.tup [.int e.lo, .int e.hi])
theorem NamsOk.same {H H' : Hp} {ns : List Nam} (h : NamsOk H ns) (s : Same H H') : NamsOk H' ns := ⟨h.nd, h.few, h.short, fun e he => s _ _ (h.pair e he)⟩
theorem okNode_iff {n : Int} : okNode n = true ↔ 0 ≤ n ∧ n < 12 := by unfold okNode; rw [Bool.and_eq_true, decide_eq_true_iff, decide_eq_true_iff]
theorem okMark_iff {n : Int} : okMark n = true ↔ n = 0 ∨ n = 1 := by unfold okMark; rw [Bool.or_eq_true, decide_eq_true_iff, decide_eq_true_iff]
theorem okName_one {z : List Nat} (h : okName z = true) : ∃ c, z = [c] ∧ c ∈ alpha := by
  match z, h with
  | [c], h => exact ⟨c, rfl, of_decide_eq_true h⟩
theorem hasN_mem {ms : List (Int × Int)} {n : Int} (h : hasN ms n = true) : n ∈ ms.map (·.1) := by
  apply Classical.byContradiction
  intro no
  unfold hasN at h
  rw [no_mark no] at h
  cases h
theorem okJoin_iff {ms : List (Int × Int)} {x y : Int} (h : okJoin ms x y = true) : x ≠ y ∧ x ∈ ms.map (·.1) ∧ y ∈ ms.map (·.1) := by
  unfold okJoin at h
  rw [Bool.and_eq_true, Bool.and_eq_true] at h
  refine ⟨fun e => ?_, hasN_mem h.2.1, hasN_mem h.2.2⟩
  rw [decide_eq_true e] at h
  cases h.1
theorem marks_right {ms : List (Int × Int)} (nd : (ms.map (·.1)).Nodup) (few : ms.length < 64) (h : faultM ms = .ok) : MarksOk ms := by
  obtain ⟨a, b⟩ := ok_faultM h
  exact ⟨nd, few, fun m hm => okNode_iff.mp (a m ((upM_perm ms).mem_iff.mpr hm)), fun m hm => okMark_iff.mp (b m ((upM_perm ms).mem_iff.mpr hm))⟩
theorem edges_right {H : Hp} {ms : List (Int × Int)} {ns : List Nam} (k : NamsOk H ns) (h : faultN ms ns = .ok) : ∃ es : List Edg, namsK ns = endsK es ∧ EdgesOk H ms es := by
  obtain ⟨a, b⟩ := ok_faultN h
  have a' : ∀ e ∈ ns, ∃ c, e.name = [c] ∧ c ∈ alpha := fun e he => okName_one (a e ((upN_perm ns).mem_iff.mpr he))
  have b' : ∀ e ∈ ns, e.lo ≠ e.hi ∧ e.lo ∈ ms.map (·.1) ∧ e.hi ∈ ms.map (·.1) := fun e he => okJoin_iff (b e ((upN_perm ns).mem_iff.mpr he))
  have one : ∀ e ∈ ns, [e.name.headD 0] = e.name := fun e he => by
    obtain ⟨c, q, _⟩ := a' e he
    rw [q]
    rfl
  refine ⟨ns.map fun e => ⟨e.name.headD 0, e.pair, e.lo, e.hi⟩, ?_, ?_, ?_, ?_, ?_⟩
  · unfold namsK endsK
    rw [List.map_map]
    refine List.map_congr_left fun e he => ?_
    show (Sum.inr (txt e.name), V.ref e.pair) = ((Sum.inr (txt [e.name.headD 0]) : Key), V.ref e.pair)
    rw [one e he]
  · rw [List.map_map]
    refine List.pairwise_map.mpr ((List.pairwise_map.mp k.nd).imp_of_mem fun {x y} hx hy ne z => ne ?_)
    rw [← one x hx, ← one y hy]
    exact congrArg (fun q => [q]) z
  · rw [List.length_map]
    exact k.few
  · intro e he
    obtain ⟨x, hx, rfl⟩ := List.mem_map.mp he
    obtain ⟨c, q, hc⟩ := a' x hx
    show x.name.headD 0 ∈ alpha
    rw [q]
    exact hc
  · intro e he
    obtain ⟨x, hx, rfl⟩ := List.mem_map.mp he
    exact ⟨k.pair x hx, b' x hx⟩
/-! ### what is put in -/
def putM (ms : List (Int × Int)) (n v : Int) : List (Int × Int) := if (ms.any fun m => decide (m.1 = n)) = true then ms.map (fun m => if m.1 = n then (m.1, v) else m) else ms ++ [(n, v)]
def putN (ns : List Nam) (e : Nam) : List Nam := if (ns.any fun x => decide (x.name = e.name)) = true then ns.map (fun x => if x.name = e.name then e else x) else ns ++ [e]
theorem putK_marks (ms : List (Int × Int)) (n v : Int) : putK (marksK ms) (Sum.inl n) (.int v) = marksK (putM ms n v) := by
  have a : ((marksK ms).any fun kv => decide (kv.1 = (Sum.inl n : Key))) = ms.any fun m => decide (m.1 = n) := by
    unfold marksK
    rw [List.any_map]
    refine congrArg (fun f => ms.any f) (funext fun m => decide_eq_decide.mpr ⟨fun h => Sum.inl.inj h, fun h => congrArg Sum.inl h⟩)
  unfold putK putM
  rw [a]
  split
  · unfold marksK
    rw [List.map_map, List.map_map]
    refine List.map_congr_left fun m _ => ?_
    show (if (Sum.inl m.1 : Key) = Sum.inl n then ((Sum.inl m.1 : Key), V.int v) else (Sum.inl m.1, V.int m.2)) = (fun q : Int × Int => ((Sum.inl q.1 : Key), V.int q.2)) (if m.1 = n then (m.1, v) else m)
    by_cases c : m.1 = n
    · rw [if_pos c, if_pos (congrArg Sum.inl c)]
    · rw [if_neg c, if_neg (fun z => c (Sum.inl.inj z))]
  · unfold marksK
    rw [List.map_append]
    rfl
theorem putK_nams (ns : List Nam) (e : Nam) : putK (namsK ns) (Sum.inr (txt e.name)) (.ref e.pair) = namsK (putN ns e) := by
  have a : ((namsK ns).any fun kv => decide (kv.1 = (Sum.inr (txt e.name) : Key))) = ns.any fun m => decide (m.name = e.name) := by
    unfold namsK
    rw [List.any_map]
    refine congrArg (fun f => ns.any f) (funext fun m => decide_eq_decide.mpr ⟨fun h => txt_inj (Sum.inr.inj h), fun h => congrArg (fun q => Sum.inr (txt q)) h⟩)
  unfold putK putN
  rw [a]
  split
  · unfold namsK
    rw [List.map_map, List.map_map]
    refine List.map_congr_left fun m _ => ?_
    show (if (Sum.inr (txt m.name) : Key) = Sum.inr (txt e.name) then ((Sum.inr (txt m.name) : Key), V.ref e.pair) else (Sum.inr (txt m.name), V.ref m.pair)) = (fun q : Nam => ((Sum.inr (txt q.name) : Key), V.ref q.pair)) (if m.name = e.name then e else m)
    by_cases c : m.name = e.name
    · rw [if_pos c, if_pos (congrArg (fun q => Sum.inr (txt q)) c), c]
    · rw [if_neg c, if_neg (fun z => c (txt_inj (Sum.inr.inj z)))]
  · unfold namsK
    rw [List.map_append]
    rfl
theorem putM_len (ms : List (Int × Int)) (n v : Int) : (putM ms n v).length ≤ ms.length + 1 := by
  unfold putM
  split
  · rw [List.length_map]; omega
  · rw [List.length_append]; exact Nat.le_refl _
theorem putN_len (ns : List Nam) (e : Nam) : (putN ns e).length ≤ ns.length + 1 := by
  unfold putN
  split
  · rw [List.length_map]; omega
  · rw [List.length_append]; exact Nat.le_refl _
theorem putM_nd {ms : List (Int × Int)} {n v : Int} (h : (ms.map (·.1)).Nodup) : ((putM ms n v).map (·.1)).Nodup := by
  unfold putM
  split
  · have e : (ms.map fun m => if m.1 = n then (m.1, v) else m).map (·.1) = ms.map (·.1) := by
      rw [List.map_map]
      refine List.map_congr_left fun m _ => ?_
      show (if m.1 = n then (m.1, v) else m).1 = m.1
      split <;> rfl
    rw [e]
    exact h
  · rename_i no
    rw [List.map_append]
    refine List.nodup_append.mpr ⟨h, List.pairwise_singleton _ _, fun a ha b hb z => no ?_⟩
    obtain ⟨m, hm, q⟩ := List.mem_map.mp ha
    have hb : b = n := List.mem_singleton.mp hb
    exact List.any_eq_true.mpr ⟨m, hm, decide_eq_true (by rw [q, z, hb])⟩
theorem putN_mem {ns : List Nam} {e x : Nam} (h : x ∈ putN ns e) : x = e ∨ x ∈ ns := by
  unfold putN at h
  split at h
  · obtain ⟨y, hy, rfl⟩ := List.mem_map.mp h
    by_cases c : y.name = e.name
    · rw [if_pos c]; exact .inl rfl
    · rw [if_neg c]; exact .inr hy
  · rcases List.mem_append.mp h with h | h
    · exact .inr h
    · exact .inl (List.mem_singleton.mp h)
theorem putN_nd {ns : List Nam} {e : Nam} (h : (ns.map (·.name)).Nodup) : ((putN ns e).map (·.name)).Nodup := by
  unfold putN
  split
  · have q : (ns.map fun x => if x.name = e.name then e else x).map (·.name) = ns.map (·.name) := by
      rw [List.map_map]
      refine List.map_congr_left fun m _ => ?_
      show (if m.name = e.name then e else m).name = m.name
      split
      · rename_i c; exact c.symm
      · rfl
    rw [q]
    exact h
  · rename_i no
    rw [List.map_append]
    refine List.nodup_append.mpr ⟨h, List.pairwise_singleton _ _, fun a ha b hb z => no ?_⟩
    obtain ⟨m, hm, q⟩ := List.mem_map.mp ha
    have hb : b = e.name := List.mem_singleton.mp hb
    exact List.any_eq_true.mpr ⟨m, hm, decide_eq_true (by rw [q, z, hb])⟩
theorem NamsOk.put {H : Hp} {ns : List Nam} {e : Nam} (k : NamsOk H ns) (few : ns.length + 1 < 64) (short : e.name.length ≤ 1000) (pair : H e.pair = some (.tup [.int e.lo, .int e.hi])) : NamsOk H (putN ns e) :=
  ⟨putN_nd k.nd, Nat.lt_of_le_of_lt (putN_len ns e) few, fun x hx => (putN_mem hx).elim (fun z => z ▸ short) (k.short x), fun x hx => (putN_mem hx).elim (fun z => z ▸ pair) (k.pair x)⟩
/-- the drawn ends, as such dicts -/
def namOf (e : Edg) : Nam := ⟨[e.letter], e.pair, e.lo, e.hi⟩
theorem ends_nams (es : List Edg) : endsK es = namsK (es.map namOf) := by
  unfold endsK namsK
  rw [List.map_map]
  rfl
theorem nams_of {H : Hp} {ms : List (Int × Int)} {es : List Edg} (h : EdgesOk H ms es) : NamsOk H (es.map namOf) := by
  obtain ⟨nd, few, name, pair⟩ := h
  refine ⟨?_, by rw [List.length_map]; exact few, fun e he => ?_, fun e he => ?_⟩
  · rw [List.map_map]
    exact List.pairwise_map.mpr ((List.pairwise_map.mp nd).imp fun {a b} ne z => ne (List.head_eq_of_cons_eq z))
  · obtain ⟨x, hx, rfl⟩ := List.mem_map.mp he
    exact (by decide : 1 ≤ 1000)
  · obtain ⟨x, hx, rfl⟩ := List.mem_map.mp he
    exact (pair x hx).1
/-! ### what is promised of these dicts -/
def spChkME (CN CK : Addr) : Sp := fun vs H Q E => ∃ (dm : Addr) (ms : List (Int × Int)), vs = [.ref dm] ∧ H dm = some (.dK (marksK ms)) ∧ (ms.map (·.1)).Nodup ∧ ms.length < 64 ∧
  (∀ n, faultM ms = .node n → Raised E CN [("node", .int n), ("code", .str "invalidnode")] H) ∧ (∀ n, faultM ms = .mark n → Raised E CK [("node", .int n), ("code", .str "invalidmark")] H) ∧ (faultM ms = .ok → ∀ H', Same H H' → Q .non H')
def spChkEE (CA CE : Addr) : Sp := fun vs H Q E => ∃ (dm de : Addr) (ms : List (Int × Int)) (ns : List Nam), vs = [.ref dm, .ref de] ∧ H dm = some (.dK (marksK ms)) ∧ H de = some (.dK (namsK ns)) ∧ NamsOk H ns ∧
  (∀ z, faultN ms ns = .name z → Raised E CA [("name", .str (txt z)), ("code", .str "invalidname")] H) ∧ (∀ z, faultN ms ns = .edge z → Raised E CE [("name", .str (txt z)), ("code", .str "invalidedge")] H) ∧ (faultN ms ns = .ok → ∀ H', Same H H' → Q .non H')
/-- what happens to such dicts -/
structure Falls (E : XK) (CN CK CA CE : Addr) (H : Hp) (f : Flt) : Prop where
  node : ∀ n, f = .node n → Raised E CN [("node", .int n), ("code", .str "invalidnode")] H
  mark : ∀ n, f = .mark n → Raised E CK [("node", .int n), ("code", .str "invalidmark")] H
  name : ∀ z, f = .name z → Raised E CA [("name", .str (txt z)), ("code", .str "invalidname")] H
  edge : ∀ z, f = .edge z → Raised E CE [("name", .str (txt z)), ("code", .str "invalidedge")] H
def spWInitE (CN CK CA CE C : Addr) : Sp := fun vs H Q E => ∃ (x dx dm de : Addr) (ms : List (Int × Int)) (ns : List Nam), vs = [.ref x, .ref dm, .ref de] ∧ H x = some (.ins C dx []) ∧ H dm = some (.dK (marksK ms)) ∧ H de = some (.dK (namsK ns)) ∧
  (ms.map (·.1)).Nodup ∧ ms.length < 64 ∧ NamsOk H ns ∧ Falls E CN CK CA CE H (fault ms ns) ∧
  (fault ms ns = .ok → ∀ H' es ms' es', namsK ns = endsK es → Kp x H H' → WebAt C H' x ms' es' → Made ms ms' es es' → Q .non H')
def spWFault : Sp := fun vs H Q _ => ∃ (dm de : Addr) (ms : List (Int × Int)) (ns : List Nam), vs = [.ref dm, .ref de] ∧ H dm = some (.dK (marksK ms)) ∧ H de = some (.dK (namsK ns)) ∧ (ms.map (·.1)).Nodup ∧ ms.length < 64 ∧ NamsOk H ns ∧
  ∀ H' t, Same H H' → H' t = none → Q (.ref t) (upd H' t (.tup [.str (fcode (fault ms ns)), fval (fault ms ns)]))
end Tm

namespace T02
open PySem PySem.Spec PyProof.Rows L2 Tm
open L2H
abbrev sEIn : Stmt := inClass (topS 3) 0
theorem scEIn : FnScope ["self", "node"] ["self", "node"] (defScope sEIn) := ⟨rfl, rfl, rfl, by decide +kernel, rfl, by decide +kernel, by decide +kernel⟩
abbrev sEIm : Stmt := inClass (topS 4) 0
theorem scEIm : FnScope ["self", "node"] ["self", "node"] (defScope sEIm) := ⟨rfl, rfl, rfl, by decide +kernel, rfl, by decide +kernel, by decide +kernel⟩
abbrev sEIa : Stmt := inClass (topS 5) 0
theorem scEIa : FnScope ["self", "name"] ["self", "name"] (defScope sEIa) := ⟨rfl, rfl, rfl, by decide +kernel, rfl, by decide +kernel, by decide +kernel⟩
abbrev sEIe : Stmt := inClass (topS 6) 0
theorem scEIe : FnScope ["self", "name"] ["self", "name"] (defScope sEIe) := ⟨rfl, rfl, rfl, by decide +kernel, rfl, by decide +kernel, by decide +kernel⟩
abbrev sChkM : Stmt := topS 15
abbrev sChkE : Stmt := topS 16
theorem scChkM : FnScope ["marks", "node"] ["marks"] (defScope sChkM) := ⟨rfl, rfl, rfl, by decide +kernel, rfl, by decide +kernel, by decide +kernel⟩
theorem scChkE : FnScope ["marks", "edges", "name"] ["marks", "edges"] (defScope sChkE) := ⟨rfl, rfl, rfl, by decide +kernel, rfl, by decide +kernel, by decide +kernel⟩
section
variable {P : Program} {w : World} {K : PySem.W.Frag} {mg : Str → Option Value} {base : Heap}
theorem ok_eIn {f C : Addr} {fd : FuncData} (F : Fun K "__init__" "InvalidNode.__init__" sEIn f fd) (T : OexC K C) (nc : PySem.W.findIn K (.ref C) "code" = some none) (np : PySem.W.findIn K (.ref C) "node" = some none) : FnOk P w K mg base CX0 1 f fd ["self", "node"] (spErr C "invalidnode" "node") := by
  refine F.ok scEIn (fun vs H Q E h => ?_) (fun cdv A outer s H vs Q E hr h => ?_)
  · obtain ⟨a, v, rfl, _⟩ := h
    rfl
  · obtain ⟨a, v, rfl, ha, q⟩ := h
    refine ⟨_, pss_cons (ps_ost (pv 0) pe_str) (pss_one (ps_ost (pv 0) (pv 1))), ?_⟩
    refine ⟨_, rfl, a, C, rfl, T, nc, .inl ⟨ha, fun dx n1 n2 => ?_⟩⟩
    exact ⟨_, rfl, _, rfl, a, C, rfl, T, np, .inr ⟨dx, _, upd_same, by rw [upd_ne n2]; exact upd_same, by show 1 ≤ 900; decide, q dx n1 n2⟩⟩
theorem ok_eIm {f C : Addr} {fd : FuncData} (F : Fun K "__init__" "InvalidMark.__init__" sEIm f fd) (T : OexC K C) (nc : PySem.W.findIn K (.ref C) "code" = some none) (np : PySem.W.findIn K (.ref C) "node" = some none) : FnOk P w K mg base CX0 1 f fd ["self", "node"] (spErr C "invalidmark" "node") := by
  refine F.ok scEIm (fun vs H Q E h => ?_) (fun cdv A outer s H vs Q E hr h => ?_)
  · obtain ⟨a, v, rfl, _⟩ := h
    rfl
  · obtain ⟨a, v, rfl, ha, q⟩ := h
    refine ⟨_, pss_cons (ps_ost (pv 0) pe_str) (pss_one (ps_ost (pv 0) (pv 1))), ?_⟩
    refine ⟨_, rfl, a, C, rfl, T, nc, .inl ⟨ha, fun dx n1 n2 => ?_⟩⟩
    exact ⟨_, rfl, _, rfl, a, C, rfl, T, np, .inr ⟨dx, _, upd_same, by rw [upd_ne n2]; exact upd_same, by show 1 ≤ 900; decide, q dx n1 n2⟩⟩
theorem ok_eIa {f C : Addr} {fd : FuncData} (F : Fun K "__init__" "InvalidName.__init__" sEIa f fd) (T : OexC K C) (nc : PySem.W.findIn K (.ref C) "code" = some none) (np : PySem.W.findIn K (.ref C) "name" = some none) : FnOk P w K mg base CX0 1 f fd ["self", "name"] (spErr C "invalidname" "name") := by
  refine F.ok scEIa (fun vs H Q E h => ?_) (fun cdv A outer s H vs Q E hr h => ?_)
  · obtain ⟨a, v, rfl, _⟩ := h
    rfl
  · obtain ⟨a, v, rfl, ha, q⟩ := h
    refine ⟨_, pss_cons (ps_ost (pv 0) pe_str) (pss_one (ps_ost (pv 0) (pv 1))), ?_⟩
    refine ⟨_, rfl, a, C, rfl, T, nc, .inl ⟨ha, fun dx n1 n2 => ?_⟩⟩
    exact ⟨_, rfl, _, rfl, a, C, rfl, T, np, .inr ⟨dx, _, upd_same, by rw [upd_ne n2]; exact upd_same, by show 1 ≤ 900; decide, q dx n1 n2⟩⟩
theorem ok_eIe {f C : Addr} {fd : FuncData} (F : Fun K "__init__" "InvalidEdge.__init__" sEIe f fd) (T : OexC K C) (nc : PySem.W.findIn K (.ref C) "code" = some none) (np : PySem.W.findIn K (.ref C) "name" = some none) : FnOk P w K mg base CX0 1 f fd ["self", "name"] (spErr C "invalidedge" "name") := by
  refine F.ok scEIe (fun vs H Q E h => ?_) (fun cdv A outer s H vs Q E hr h => ?_)
  · obtain ⟨a, v, rfl, _⟩ := h
    rfl
  · obtain ⟨a, v, rfl, ha, q⟩ := h
    refine ⟨_, pss_cons (ps_ost (pv 0) pe_str) (pss_one (ps_ost (pv 0) (pv 1))), ?_⟩
    refine ⟨_, rfl, a, C, rfl, T, nc, .inl ⟨ha, fun dx n1 n2 => ?_⟩⟩
    exact ⟨_, rfl, _, rfl, a, C, rfl, T, np, .inr ⟨dx, _, upd_same, by rw [upd_ne n2]; exact upd_same, by show 1 ≤ 900; decide, q dx n1 n2⟩⟩
theorem ok_chkme {f fN fK C fXIn fXIm CIn CIm : Addr} {mc : Value} {fd fdN fdK fdXIn fdXIm : FuncData} (F : Fun K "check_marks" "check_marks" sChkM f fd) (FN : Fun K "is_node" "is_node" sIsNode fN fdN) (bN : Binds K fdN ["number"] []) (gN : mg "is_node" = some (.ref fN))
    (FK : Fun K "is_mark" "is_mark" sIsMark fK fdK) (bK : Binds K fdK ["number"] []) (gK : mg "is_mark" = some (.ref fK)) (T : ChkT K mg C mc)
    (FXIn : Fun K "__init__" "InvalidNode.__init__" sEIn fXIn fdXIn) (bXIn : Binds K fdXIn ["self", "node"] []) (TIn : OexC K CIn) (iXIn : PySem.W.findIn K (.ref CIn) "__init__" = some (some (.ref fXIn))) (tXIn : PySem.W.typeIn K (.ref fXIn) = some (.type "function"))
    (ncIn : PySem.W.findIn K (.ref CIn) "code" = some none) (npIn : PySem.W.findIn K (.ref CIn) "node" = some none) (gXIn : mg "InvalidNode" = some (.ref CIn))
    (FXIm : Fun K "__init__" "InvalidMark.__init__" sEIm fXIm fdXIm) (bXIm : Binds K fdXIm ["self", "node"] []) (TIm : OexC K CIm) (iXIm : PySem.W.findIn K (.ref CIm) "__init__" = some (some (.ref fXIm))) (tXIm : PySem.W.typeIn K (.ref fXIm) = some (.type "function"))
    (ncIm : PySem.W.findIn K (.ref CIm) "code" = some none) (npIm : PySem.W.findIn K (.ref CIm) "node" = some none) (gXIm : mg "InvalidMark" = some (.ref CIm)) : FnOk P w K mg base (L2.CX P w) 3 f fd ["marks"] (spChkME CIn CIm) := by
  have GN : FnOk P w K mg base CX0 1 fN fdN ["number"] spIsNodeB := ok_isnodeB FN T
  have GK : FnOk P w K mg base CX0 1 fK fdK ["number"] spIsMarkB := ok_ismarkB FK
  have GXIn := ok_eIn (P := P) (w := w) (mg := mg) (base := base) FXIn TIn ncIn npIn
  have GXIm := ok_eIm (P := P) (w := w) (mg := mg) (base := base) FXIm TIm ncIm npIm
  refine F.okX scChkM (fun vs H Q E h => ?_) (fun cdv A outer s H vs Q E hr h => ?_)
  · obtain ⟨dm, ms, rfl, _⟩ := h
    rfl
  · obtain ⟨dm, ms, rfl, hm, nd, few, rN, rK, good⟩ := h
    have hr1 : Room 1 _ := hr.mono (by decide)
    have hn : (ms.map (·.1)).length < 64 := by rw [List.length_map]; exact few
    have uplen : (upM ms).length = ms.length := (upM_perm ms).length_eq
    refine ⟨_, pss_cons (ps_for (passes_of rfl) rfl (pi_list (pe_callB (call_sortedDI rfl) (by rfl) T.sorted (by decide +kernel) (pa_cons (pv 0) pa_nil))) (pg_name (i := 1) scChkM.nd rfl (.inl rfl))
        (pss_one (ps_if (pt_not (pt_val (pe_call GN hr1 (by rfl) gN FN.kp bN .nil pass0 (pa_cons (pv 1) pa_nil)))) (pss_one (ps_raise rfl (takes_of rfl rfl rfl rfl) (pmk_oex TIn iXIn tXIn GXIn hr bXIn .nil pass0 (by rfl) gXIn (pa_cons (pv 1) pa_nil)))) pss_nil)))
      (pss_one (ps_for (passes_of rfl) rfl (pi_list (pe_callB (call_sortedDI rfl) (by rfl) T.sorted (by decide +kernel) (pa_cons (pv 0) pa_nil))) (pg_name (i := 1) scChkM.nd rfl (.inl rfl))
        (pss_one (ps_if (pt_not (pt_val (pe_call GK hr1 (by rfl) gK FK.kp bK .nil pass0 (pa_cons (pe_dget (hu_of hr) (pv 0) (pv 1) (fun _ _ => rfl)) pa_nil)))) (pss_one (ps_raise rfl (takes_of rfl rfl rfl rfl) (pmk_oex TIm iXIm tXIm GXIm hr bXIm .nil pass0 (by rfl) gXIm (pa_cons (pv 1) pa_nil)))) pss_nil)))), ?_⟩
    refine ⟨_, rfl, dm, _, _, rfl, .inl hm, keysM ms, hn, fun ys p py ry np => ?_⟩
    obtain rfl := upM_of py ry
    have s1 : Same H (upd H p (.lst (((upM ms).map (·.1)).map V.int))) := same_upd np
    have hp : (upd H p (.lst (((upM ms).map (·.1)).map V.int))) p = some (.lst (((upM ms).map (·.1)).map V.int)) := upd_same
    generalize upd H p (.lst (((upM ms).map (·.1)).map V.int)) = H1 at s1 hp ⊢
    have lenU : (((upM ms).map (·.1)).map V.int).length = (upM ms).length := by rw [List.length_map, List.length_map]
    refine ⟨p, rfl, ⟨_, SqL.of hp⟩, for_list (K := K) (a := p) (xs := ((upM ms).map (·.1)).map V.int) (fun i σ H' => ∃ y, σ = [some (.ref dm), y] ∧ H' = H1 ∧ ∀ m ∈ (upM ms).take i, okNode m.1 = true) ⟨none, rfl, rfl, fun m hm => by cases hm⟩
      (fun i σ H' _ ⟨_, _, e, _⟩ => by rw [e]; exact SqL.of hp) ?_ ?_⟩
    · rintro i v σ H' hv ⟨y, rfl, rfl, before⟩
      rw [List.map_map, List.getElem?_map] at hv
      obtain ⟨hi, ei⟩ : ∃ hi : i < (upM ms).length, v = V.int (upM ms)[i].1 := by
        cases e : (upM ms)[i]? with
        | none => rw [e] at hv; cases hv
        | some m =>
          rw [e] at hv
          obtain ⟨hi, em⟩ := List.getElem?_eq_some_iff.mp e
          exact ⟨hi, by rw [em]; exact (Option.some.inj hv).symm⟩
      subst ei
      refine ⟨_, rfl, _, rfl, _, rfl, ?_⟩
      show if (!okNode (upM ms)[i].1) = true then _ else _
      cases c : okNode (upM ms)[i].1 with
      | true =>
        refine iteF ⟨_, rfl, rfl, fun m hm => ?_⟩
        rw [List.take_succ_eq_append_getElem hi] at hm
        rcases List.mem_append.mp hm with hm | hm
        · exact before m hm
        · rw [List.mem_singleton.mp hm]; exact c
      | false =>
        refine iteT (made_err ⟨_, rfl, _, rfl, fun H3 d s3 nd h3 => (rN _ (faultM_node hi before c)).same s1 H3 d s3 nd h3⟩ ?_)
        rintro R S imp ⟨v, hv, h⟩
        exact ⟨v, hv, imp _ _ h⟩
    · rintro σ H' ⟨y, rfl, rfl, nodes⟩
      rw [lenU, List.take_length] at nodes
      refine ⟨_, rfl, dm, _, _, rfl, .inl (s1 _ _ hm), keysM ms, hn, fun zs p2 pz rz np2 => ?_⟩
      obtain rfl := upM_of pz rz
      have s2 := s1.trans (same_upd (o := .lst (((upM ms).map (·.1)).map V.int)) np2)
      have hz2 : (upd H' p2 (.lst (((upM ms).map (·.1)).map V.int))) p2 = some (.lst (((upM ms).map (·.1)).map V.int)) := upd_same
      generalize upd H' p2 (.lst (((upM ms).map (·.1)).map V.int)) = H2 at s2 hz2 ⊢
      refine ⟨p2, rfl, ⟨_, SqL.of hz2⟩, for_list (K := K) (a := p2) (xs := ((upM ms).map (·.1)).map V.int) (fun i σ H' => ∃ y, σ = [some (.ref dm), y] ∧ Same H2 H' ∧ ∀ m ∈ (upM ms).take i, okMark m.2 = true) ⟨y, rfl, Same.refl _, fun m hm => by cases hm⟩ (fun i σ H' _ ⟨_, _, e, _⟩ => SqL.of (e _ _ hz2)) ?_ ?_⟩
      · rintro i v σ H' hv ⟨y', rfl, s3, before⟩
        rw [List.map_map, List.getElem?_map] at hv
        obtain ⟨hi, ei⟩ : ∃ hi : i < (upM ms).length, v = V.int (upM ms)[i].1 := by
          cases e : (upM ms)[i]? with
          | none => rw [e] at hv; cases hv
          | some m =>
            rw [e] at hv
            obtain ⟨hi, em⟩ := List.getElem?_eq_some_iff.mp e
            exact ⟨hi, by rw [em]; exact (Option.some.inj hv).symm⟩
        subst ei
        have look : valV (marksK ms) (Sum.inl (upM ms)[i].1) = some (.int (upM ms)[i].2) := mark_at nd ((upM_perm ms).mem_iff.mp (List.getElem_mem hi))
        have got : DGet H' dm (.int (upM ms)[i].1) (some (.int (upM ms)[i].2)) := look ▸ DGet.k (k := Sum.inl (upM ms)[i].1) (s3 _ _ (s2 _ _ hm))
        refine ⟨_, rfl, _, rfl, dm, _, rfl, got, _, rfl, fun H4 s4 => ⟨_, rfl, ?_⟩⟩
        show if (!okMark (upM ms)[i].2) = true then _ else _
        cases c : okMark (upM ms)[i].2 with
        | true =>
          refine iteF ⟨_, rfl, s3.trans s4, fun m hm => ?_⟩
          rw [List.take_succ_eq_append_getElem hi] at hm
          rcases List.mem_append.mp hm with hm | hm
          · exact before m hm
          · rw [List.mem_singleton.mp hm]; exact c
        | false =>
          refine iteT (made_err ⟨_, rfl, _, rfl, fun H5 d s5 nd5 h5 => (rK _ (faultM_mark nodes hi before c)).same ((s2.trans s3).trans s4) H5 d s5 nd5 h5⟩ ?_)
          rintro R S imp ⟨v, hv, h⟩
          exact ⟨v, hv, imp _ _ h⟩
      · rintro σ H' ⟨y', rfl, s3, marks⟩
        rw [lenU, List.take_length] at marks
        exact good (faultM_ok nodes marks) _ (s2.trans s3)
theorem ok_chkee {f fN fJ C fXIa fXIe CIa CIe : Addr} {mc : Value} {fd fdN fdJ fdXIa fdXIe : FuncData} (F : Fun K "check_edges" "check_edges" sChkE f fd) (FN : Fun K "is_name" "is_name" sIsName fN fdN) (bN : Binds K fdN ["text"] []) (gN : mg "is_name" = some (.ref fN))
    (FJ : Fun K "joins_two" "joins_two" sJoins fJ fdJ) (bJ : Binds K fdJ ["marks", "pair"] []) (gJ : mg "joins_two" = some (.ref fJ)) (T : ChkT K mg C mc)
    (FXIa : Fun K "__init__" "InvalidName.__init__" sEIa fXIa fdXIa) (bXIa : Binds K fdXIa ["self", "name"] []) (TIa : OexC K CIa) (iXIa : PySem.W.findIn K (.ref CIa) "__init__" = some (some (.ref fXIa))) (tXIa : PySem.W.typeIn K (.ref fXIa) = some (.type "function"))
    (ncIa : PySem.W.findIn K (.ref CIa) "code" = some none) (npIa : PySem.W.findIn K (.ref CIa) "name" = some none) (gXIa : mg "InvalidName" = some (.ref CIa))
    (FXIe : Fun K "__init__" "InvalidEdge.__init__" sEIe fXIe fdXIe) (bXIe : Binds K fdXIe ["self", "name"] []) (TIe : OexC K CIe) (iXIe : PySem.W.findIn K (.ref CIe) "__init__" = some (some (.ref fXIe))) (tXIe : PySem.W.typeIn K (.ref fXIe) = some (.type "function"))
    (ncIe : PySem.W.findIn K (.ref CIe) "code" = some none) (npIe : PySem.W.findIn K (.ref CIe) "name" = some none) (gXIe : mg "InvalidEdge" = some (.ref CIe)) : FnOk P w K mg base (L2.CX P w) 3 f fd ["marks", "edges"] (spChkEE CIa CIe) := by
  have GN : FnOk P w K mg base CX0 1 fN fdN ["text"] spIsNameB := ok_isnameB FN T
  have GJ : FnOk P w K mg base CX0 1 fJ fdJ ["marks", "pair"] spJoinsB := ok_joinsB FJ T
  have GXIa := ok_eIa (P := P) (w := w) (mg := mg) (base := base) FXIa TIa ncIa npIa
  have GXIe := ok_eIe (P := P) (w := w) (mg := mg) (base := base) FXIe TIe ncIe npIe
  refine F.okX scChkE (fun vs H Q E h => ?_) (fun cdv A outer s H vs Q E hr h => ?_)
  · obtain ⟨dm, de, ms, es, rfl, _⟩ := h
    rfl
  · obtain ⟨dm, de, ms, es, rfl, hm, he, nok, rA, rE, good⟩ := h
    have hr1 : Room 1 _ := hr.mono (by decide)
    have hn : (es.map fun e => txt e.name).length < 64 := by rw [List.length_map]; exact nok.few
    refine ⟨_, pss_cons (ps_for (passes_of rfl) rfl (pi_list (pe_callB (call_sortedD rfl) (by rfl) T.sorted (by decide +kernel) (pa_cons (pv 1) pa_nil))) (pg_name (i := 2) scChkE.nd rfl (.inl rfl))
        (pss_one (ps_if (pt_not (pt_val (pe_call GN hr1 (by rfl) gN FN.kp bN .nil pass0 (pa_cons (pv 2) pa_nil)))) (pss_one (ps_raise rfl (takes_of rfl rfl rfl rfl) (pmk_oex TIa iXIa tXIa GXIa hr bXIa .nil pass0 (by rfl) gXIa (pa_cons (pv 2) pa_nil)))) pss_nil)))
      (pss_one (ps_for (passes_of rfl) rfl (pi_list (pe_callB (call_sortedD rfl) (by rfl) T.sorted (by decide +kernel) (pa_cons (pv 1) pa_nil))) (pg_name (i := 2) scChkE.nd rfl (.inl rfl))
        (pss_one (ps_if (pt_not (pt_val (pe_call GJ hr1 (by rfl) gJ FJ.kp bJ .nil pass0 (pa_cons (pv 0) (pa_cons (pe_dget (hu_of hr) (pv 1) (pv 2) (fun _ _ => rfl)) pa_nil))))) (pss_one (ps_raise rfl (takes_of rfl rfl rfl rfl) (pmk_oex TIe iXIe tXIe GXIe hr bXIe .nil pass0 (by rfl) gXIe (pa_cons (pv 2) pa_nil)))) pss_nil)))), ?_⟩
    refine ⟨_, rfl, de, _, _, rfl, .inl he, keysN es, hn, fun ys p py ry np => ?_⟩
    obtain rfl := upN_of py ry
    have s1 : Same H (upd H p (.lst (((upN es).map fun e => txt e.name).map V.str))) := same_upd np
    have hp : (upd H p (.lst (((upN es).map fun e => txt e.name).map V.str))) p = some (.lst (((upN es).map fun e => txt e.name).map V.str)) := upd_same
    generalize upd H p (.lst (((upN es).map fun e => txt e.name).map V.str)) = H1 at s1 hp ⊢
    have lenU : (((upN es).map fun e => txt e.name).map V.str).length = (upN es).length := by rw [List.length_map, List.length_map]
    refine ⟨p, rfl, ⟨_, SqL.of hp⟩, for_list (K := K) (a := p) (xs := ((upN es).map fun e => txt e.name).map V.str) (fun i σ H' => ∃ y, σ = [some (.ref dm), some (.ref de), y] ∧ H' = H1 ∧ ∀ e ∈ (upN es).take i, okName e.name = true) ⟨none, rfl, rfl, fun m hm => by cases hm⟩
      (fun i σ H' _ ⟨_, _, e, _⟩ => by rw [e]; exact SqL.of hp) ?_ ?_⟩
    · rintro i v σ H' hv ⟨y, rfl, rfl, before⟩
      rw [List.map_map, List.getElem?_map] at hv
      obtain ⟨hi, ei⟩ : ∃ hi : i < (upN es).length, v = V.str (txt (upN es)[i].name) := by
        cases e : (upN es)[i]? with
        | none => rw [e] at hv; cases hv
        | some m =>
          rw [e] at hv
          obtain ⟨hi, em⟩ := List.getElem?_eq_some_iff.mp e
          exact ⟨hi, by rw [em]; exact (Option.some.inj hv).symm⟩
      subst ei
      have here := (upN_perm es).mem_iff.mp (List.getElem_mem hi)
      refine ⟨_, rfl, _, rfl, nok.short _ here, _, rfl, ?_⟩
      show if (!okName (upN es)[i].name) = true then _ else _
      cases c : okName (upN es)[i].name with
      | true =>
        refine iteF ⟨_, rfl, rfl, fun m hm => ?_⟩
        rw [List.take_succ_eq_append_getElem hi] at hm
        rcases List.mem_append.mp hm with hm | hm
        · exact before m hm
        · rw [List.mem_singleton.mp hm]; exact c
      | false =>
        refine iteT (made_err ⟨_, rfl, _, rfl, fun H3 d s3 nd h3 => (rA _ (faultN_name hi before c)).same s1 H3 d s3 nd h3⟩ ?_)
        rintro R S imp ⟨v, hv, h⟩
        exact ⟨v, hv, imp _ _ h⟩
    · rintro σ H' ⟨y, rfl, rfl, names⟩
      rw [lenU, List.take_length] at names
      refine ⟨_, rfl, de, _, _, rfl, .inl (s1 _ _ he), keysN es, hn, fun zs p2 pz rz np2 => ?_⟩
      obtain rfl := upN_of pz rz
      have s2 := s1.trans (same_upd (o := .lst (((upN es).map fun e => txt e.name).map V.str)) np2)
      have hz2 : (upd H' p2 (.lst (((upN es).map fun e => txt e.name).map V.str))) p2 = some (.lst (((upN es).map fun e => txt e.name).map V.str)) := upd_same
      generalize upd H' p2 (.lst (((upN es).map fun e => txt e.name).map V.str)) = H2 at s2 hz2 ⊢
      refine ⟨p2, rfl, ⟨_, SqL.of hz2⟩, for_list (K := K) (a := p2) (xs := ((upN es).map fun e => txt e.name).map V.str) (fun i σ H' => ∃ y, σ = [some (.ref dm), some (.ref de), y] ∧ H' = H2 ∧ ∀ e ∈ (upN es).take i, okJoin ms e.lo e.hi = true) ⟨y, rfl, rfl, fun m hm => by cases hm⟩ (fun i σ H' _ ⟨_, _, e, _⟩ => by rw [e]; exact SqL.of hz2) ?_ ?_⟩
      · rintro i v σ H' hv ⟨y', rfl, rfl, before⟩
        rw [List.map_map, List.getElem?_map] at hv
        obtain ⟨hi, ei⟩ : ∃ hi : i < (upN es).length, v = V.str (txt (upN es)[i].name) := by
          cases e : (upN es)[i]? with
          | none => rw [e] at hv; cases hv
          | some m =>
            rw [e] at hv
            obtain ⟨hi, em⟩ := List.getElem?_eq_some_iff.mp e
            exact ⟨hi, by rw [em]; exact (Option.some.inj hv).symm⟩
        subst ei
        have here := (upN_perm es).mem_iff.mp (List.getElem_mem hi)
        have look : valV (namsK es) (Sum.inr (txt (upN es)[i].name)) = some (.ref (upN es)[i].pair) := nam_at nok.nd here
        have got : DGet H' de (.str (txt (upN es)[i].name)) (some (.ref (upN es)[i].pair)) := look ▸ DGet.k (k := Sum.inr (txt (upN es)[i].name)) (s2 _ _ he)
        refine ⟨_, rfl, _, rfl, _, rfl, de, _, rfl, got, dm, _, ms, _, _, rfl, s2 _ _ hm, s2 _ _ (nok.pair _ here), _, rfl, ?_⟩
        show if (!okJoin ms (upN es)[i].lo (upN es)[i].hi) = true then _ else _
        cases c : okJoin ms (upN es)[i].lo (upN es)[i].hi with
        | true =>
          refine iteF ⟨_, rfl, rfl, fun m hm => ?_⟩
          rw [List.take_succ_eq_append_getElem hi] at hm
          rcases List.mem_append.mp hm with hm | hm
          · exact before m hm
          · rw [List.mem_singleton.mp hm]; exact c
        | false =>
          refine iteT (made_err ⟨_, rfl, _, rfl, fun H5 d s5 nd5 h5 => (rE _ (faultN_edge names hi before c)).same s2 H5 d s5 nd5 h5⟩ ?_)
          rintro R S imp ⟨v, hv, h⟩
          exact ⟨v, hv, imp _ _ h⟩
      · rintro σ H' ⟨y', rfl, rfl, joins⟩
        rw [lenU, List.take_length] at joins
        exact good (faultN_ok names joins) _ s2
end


end T02

namespace T02
open PySem PySem.Spec PyProof.Rows L2 Tm
abbrev sWInit : Stmt := inClass (topS 17) 2
theorem scWInit : FnScope ["self", "marks", "edges", "node", "name"] ["self", "marks", "edges"] (defScope sWInit) := ⟨rfl, rfl, rfl, by decide +kernel, rfl, by decide +kernel, by decide +kernel⟩
structure WebT (K : PySem.W.Frag) (mg : Str → Option Value) (C : Addr) : Prop where
  cl : Cls K C
  nM : NoAttr K C "marks"
  nP : NoAttr K C "pairs"
  nS : NoAttr K C "stars"
  tuple : mg "tuple" = none
section
variable {P : Program} {w : World} {K : PySem.W.Frag} {mg : Str → Option Value} {base : Heap}
set_option maxHeartbeats 2000000 in
theorem ok_winite {f fM fD C CN CK CA CE : Addr} {mc : Value} {fd fdM fdD : FuncData} (F : Fun K "__init__" "Web.__init__" sWInit f fd)
    (GM : FnOk P w K mg base (L2.CX P w) 3 fM fdM ["marks"] (spChkME CN CK)) (FM : Fun K "check_marks" "check_marks" sChkM fM fdM) (bM : Binds K fdM ["marks"] []) (gM : mg "check_marks" = some (.ref fM))
    (GD : FnOk P w K mg base (L2.CX P w) 3 fD fdD ["marks", "edges"] (spChkEE CA CE)) (FD : Fun K "check_edges" "check_edges" sChkE fD fdD) (bD : Binds K fdD ["marks", "edges"] []) (gD : mg "check_edges" = some (.ref fD))
    (T : ChkT K mg C mc) (U : WebT K mg C) : FnOk P w K mg base (L2.CX P w) 4 f fd ["self", "marks", "edges"] (spWInitE CN CK CA CE C) := by
  refine F.okX scWInit (fun vs H Q E h => ?_) (fun cdv A outer s H vs Q E hr h => ?_)
  · obtain ⟨x, dx, dm, de, ms, ns, rfl, _⟩ := h
    rfl
  · obtain ⟨x, dx, dm, de, ms, ns, rfl, hx, hm, he, mnd0, mfew0, nok, bad, hand⟩ := h
    refine ⟨_, pss_cons (ps_expr (pe_call GM hr (by rfl) gM FM.kp bM .nil (passes_call (takes_of rfl rfl rfl rfl) (fun _ _ _ _ h => h)) (pa_cons (pv 1) pa_nil)))
      (pss_cons (ps_expr (pe_call GD hr (by rfl) gD FD.kp bD .nil (passes_call (takes_of rfl rfl rfl rfl) (fun _ _ _ _ h => h)) (pa_cons (pv 1) (pa_cons (pv 2) pa_nil))))
      (pss_cons (ps_fld (pv 0) (pe_dc (own := [("node", 3)]) (g := gName 3) (tt := tYes) rfl scWInit.nd (pi_list (pe_callB (call_sortedDI rfl) (by rfl) T.sorted (by decide +kernel) (pa_cons (pv 1) pa_nil))) (blkOk_by (own := [("node", 3)]) (N := ["self", "marks", "edges", "node", "name"]) (sc := defScope sWInit) (by decide +kernel)) (fun _ _ _ _ _ => pg_name (i := 3) scWInit.nd rfl (Or.inl rfl)) (fun _ _ _ _ _ => pts_nil)
        (fun _ _ _ _ _ => pv 3) (fun _ _ _ _ _ => pe_dget (hu_of hr) (pv 1) (pv 3) (fun _ _ => rfl))) rfl)
      (pss_cons (ps_fld (pv 0) (pe_dc (own := [("name", 4)]) (g := gName 4) (tt := tYes) rfl scWInit.nd (pi_list (pe_callB (call_sortedD rfl) (by rfl) T.sorted (by decide +kernel) (pa_cons (pv 2) pa_nil))) (blkOk_by (own := [("name", 4)]) (N := ["self", "marks", "edges", "node", "name"]) (sc := defScope sWInit) (by decide +kernel)) (fun _ _ _ _ _ => pg_name (i := 4) scWInit.nd rfl (Or.inl rfl)) (fun _ _ _ _ _ => pts_nil)
        (fun _ _ _ _ _ => pv 4) (fun _ _ _ _ _ => pe_callTy tupNew (by rfl) U.tuple boot_tuple (pa_cons (pe_callB sortPair (by rfl) T.sorted (by decide +kernel) (pa_cons (pe_dget (hu_of hr) (pv 2) (pv 4) (fun _ _ => rfl)) pa_nil)) pa_nil))) rfl)
      (pss_cons (ps_fld (pv 0) pe_dnewK rfl)
      (pss_one (ps_lock (ps_for (passes_of rfl) rfl (pi_keys (pe_fld (pv 0) rfl)) (pg_name (i := 3) scWInit.nd rfl (.inr rfl))
        (pss_one (ps_dput (hu_of hr) (pe_fld (pv 0) rfl) (pv 3) (pe_join pe_str (pe_lock (pe_lc (own := [("name", 4)]) (g := gName 4) rfl scWInit.nd (pi_keys (pe_fld (pv 0) rfl)) (blkOk_by (own := [("name", 4)]) (N := ["self", "marks", "edges", "node", "name"]) (sc := defScope sWInit) (by decide +kernel)) (fun _ _ _ _ _ => pg_name (i := 4) scWInit.nd rfl (Or.inl rfl))
          (fun _ _ _ _ _ => pts_one (pt_cmpR (show OpR _ _ (rIn K false) from op_in_seq) (pv 3) (pe_dget (hu_of hr) (show PE _ _ (tFld K (tVar 0) (Str.ofString "pairs")) from pe_fld (pv 0) rfl) (pv 4) (fun _ _ => rfl)) (by rfl))) (fun _ _ _ _ _ => pv 4)))) rfl))))))))), ?_⟩
    refine ⟨_, rfl, dm, ms, rfl, hm, mnd0, mfew0, fun n e => bad.node n (fault_node e), fun n e => bad.mark n (fault_mark e), fun fM0 H1 s1 => ?_⟩
    refine ⟨_, rfl, _, rfl, dm, de, ms, ns, rfl, s1 _ _ hm, s1 _ _ he, nok.same s1, fun z e => (bad.name z ((fault_rest fM0).trans e)).same s1, fun z e => (bad.edge z ((fault_rest fM0).trans e)).same s1, fun fN0 H2 s2 => ?_⟩
    have mok := marks_right mnd0 mfew0 fM0
    obtain ⟨es, alike, eok⟩ := edges_right nok fN0
    replace hand := fun H' ms' es' => hand ((fault_rest fM0).trans fN0) H' es ms' es' alike
    rw [alike] at he
    clear bad nok alike fM0 fN0
    obtain ⟨mnd, mfew, mnode, mmark⟩ := mok
    obtain ⟨end_, efew, ename, epair⟩ := eok
    have s12 := s1.trans s2
    -- self.marks
    dsimp only
    refine cut (t1 := sFld K (tVar 0) (tDc _ _ _ _ _ _) (Str.ofString "marks")) (fun σ' H' => ∃ (a1 : Addr) (ms' : List (Int × Int)), σ' = [some (.ref x), some (.ref dm), some (.ref de), none, none] ∧ Kp x H H' ∧ H a1 = none ∧ H' x = some (.ins C dx (putF "marks" (.ref a1) [])) ∧ H' a1 = some (.dK (marksK ms')) ∧ ms'.Perm ms ∧ (ms'.map (·.1)).Pairwise (· < ·)) (fun σ1 H3 hp => ?tail1) (fun N1 hN1 => ?head1)
    case head1 =>
      refine fld_dc (fun J Hs => ∃ (ms' : List (Int × Int)) (p : Addr), J = Itl K p ∧ ms'.Perm ms ∧ (ms'.map (·.1)).Pairwise (· < ·) ∧ Same H2 Hs ∧ Hs p = some (.lst ((ms'.map (·.1)).map V.int)))
        (fun R hR => ⟨_, rfl, dm, _, _, rfl, .inl (s12 _ _ hm), keysM ms, by rw [List.length_map]; exact mfew, fun ks p pk rk np => ⟨p, rfl, ⟨_, SqL.of upd_same⟩, ?_⟩⟩) ?_
      · obtain ⟨ms', pm, rfl⟩ := perm_lift (·.1) ks ms pk
        exact hR _ _ ⟨ms', p, rfl, pm, rise_lt rk (pk.nodup_iff.mpr mnd), same_upd np, upd_same⟩
      · rintro J Hs ⟨ms', p, rfl, pm, rise, sm, hp⟩
        have nd' : (ms'.map (·.1)).Nodup := rise.imp fun hab e => by rw [e] at hab; exact Int.lt_irrefl _ hab
        have w := walk_list (K := K) (a := p) (xs := (ms'.map (·.1)).map V.int)
        have wl : ((ms'.map (·.1)).map V.int).length = ms'.length := by rw [List.length_map, List.length_map]
        rw [wl] at w
        refine dc_walk w (fun D i H' => Same Hs H' ∧ H' D = some (.dK (marksK (ms'.take i)))) (fun D fresh => ⟨same_upd fresh, upd_same⟩) (fun D i H' _ hv => SqL.of (hv.1 _ _ hp)) ?_ ?_
        · rintro D i v H4 H5 fresh hi ⟨sD, hD⟩ ⟨rfl, hv⟩
          have ev : v = V.int ms'[i].1 := by
            rw [List.map_map, List.getElem?_map, List.getElem?_eq_getElem hi] at hv
            exact (Option.some.inj hv).symm
          subst ev
          have look : valV (marksK ms) (Sum.inl ms'[i].1) = some (.int ms'[i].2) := mark_at mnd (pm.mem_iff.mp (List.getElem_mem hi))
          have got : DGet H5 dm (.int ms'[i].1) (some (.int ms'[i].2)) := look ▸ DGet.k (k := Sum.inl ms'[i].1) (sD _ _ (sm _ _ (s12 _ _ hm)))
          refine ⟨rfl, ?_⟩
          refine ⟨_, rfl, _, rfl, _, rfl, dm, _, rfl, got, _, Sum.inl ms'[i].1, rfl, hD, ?_, same_put sD fresh, ?_⟩
          · unfold marksK
            rw [List.length_map, List.length_take]
            have := pm.length_eq
            exact small1000 (by omega)
          · rw [upd_same, marksK_take hi nd']
        · rintro D H4 fresh ⟨sD, hD⟩
          have nDx : x ≠ D := ne_of_none (sm _ _ (s12 _ _ hx)) fresh
          rw [List.take_length] at hD
          refine ⟨_, rfl, x, C, dx, [], rfl, sD _ _ (sm _ _ (s12 _ _ hx)), U.cl, U.nM, (by show 0 < 1000; decide), ?_⟩
          refine hN1 _ _ ⟨D, ms', rfl, ?_, (s12.trans sm).free fresh, upd_same, by rw [upd_ne nDx.symm]; exact hD, pm, rise⟩
          exact fun q o nq hq => by rw [upd_ne nq]; exact sD _ _ (sm _ _ (s12 _ _ hq))
    case tail1 =>
    obtain ⟨a1, ms', rfl, K3, fa1, hx3, ha1, pm, rise⟩ := hp
    have nxd : de ≠ x := ne_of he hx (by intro z; cases z)
    have nxm : dm ≠ x := ne_of hm hx (by intro z; cases z)
    have epx : ∀ e ∈ es, e.pair ≠ x := fun e hee => ne_of (epair e hee).1 hx (by intro z; cases z)
    have na1x : a1 ≠ x := fun z => by rw [z, hx] at fa1; cases fa1
    -- self.pairs
    refine cut (t1 := sFld K (tVar 0) (tDc _ _ _ _ _ _) (Str.ofString "pairs")) (fun σ' H' => ∃ (a2 : Addr) (es' : List Edg), σ' = [some (.ref x), some (.ref dm), some (.ref de), none, none] ∧ Kp x H H' ∧ H a2 = none ∧ a2 ≠ a1 ∧ H' x = some (.ins C dx (putF "pairs" (.ref a2) (putF "marks" (.ref a1) []))) ∧ H' a1 = some (.dK (marksK ms')) ∧ H' a2 = some (.dK (endsK es'))
        ∧ (es'.map (·.letter)).Pairwise (· < ·) ∧ (es'.map fun e => (e.letter, e.lo, e.hi)).Perm (es.map fun e => (e.letter, min e.lo e.hi, max e.lo e.hi)) ∧ ∀ e ∈ es', H' e.pair = some (.tup [.int e.lo, .int e.hi])) (fun σ1 H6 hp => ?tail2) (fun N2 hN2 => ?head2)
    case head2 =>
      refine fld_dc (fun J Hs => ∃ (e1 : List Edg) (p : Addr), J = Itl K p ∧ e1.Perm es ∧ (e1.map (·.letter)).Pairwise (· < ·) ∧ Same H3 Hs ∧ Hs p = some (.lst ((e1.map fun e => txt [e.letter]).map V.str)))
        (fun R hR => ⟨_, rfl, de, _, _, rfl, .inl (K3 _ _ nxd he), keysE es, by rw [List.length_map]; exact efew, fun ys p py ry np => ⟨p, rfl, ⟨_, SqL.of upd_same⟩, ?_⟩⟩) ?_
      · obtain ⟨e1, pe, rfl⟩ := perm_lift (fun e : Edg => txt [e.letter]) ys es py
        refine hR _ _ ⟨e1, p, rfl, pe, ?_, same_upd np, upd_same⟩
        have r2 : sortedS ((e1.map (·.letter)).map fun d => txt [d]) = true := by
          rw [List.map_map]
          exact ry
        exact letters_rise r2 ((pe.map _).nodup_iff.mpr end_)
      · rintro J Hs ⟨e1, p, rfl, pe, rise1, sm, hp⟩
        have w := walk_list (K := K) (a := p) (xs := (e1.map fun e => txt [e.letter]).map V.str)
        have wl : ((e1.map fun e => txt [e.letter]).map V.str).length = e1.length := by rw [List.length_map, List.length_map]
        rw [wl] at w
        refine dc_walk w (fun D i H' => Same Hs H' ∧ ∃ e2 : List Edg, H' D = some (.dK (endsK e2)) ∧ e2.length = i ∧ (e2.map fun e => (e.letter, e.lo, e.hi)) = (e1.take i).map (fun e => (e.letter, min e.lo e.hi, max e.lo e.hi)) ∧ ∀ e ∈ e2, H' e.pair = some (.tup [.int e.lo, .int e.hi]))
          (fun D fresh => ⟨same_upd fresh, [], upd_same, rfl, rfl, fun e hee => absurd hee List.not_mem_nil⟩) (fun D i H' _ hv => SqL.of (hv.1 _ _ hp)) ?_ ?_
        · rintro D i v H4 H5 fresh hi ⟨sD, e2, hD, l2, em, et⟩ ⟨rfl, hv⟩
          have ev : v = V.str (txt [e1[i].letter]) := by
            rw [List.map_map, List.getElem?_map, List.getElem?_eq_getElem hi] at hv
            exact (Option.some.inj hv).symm
          subst ev
          have mem : e1[i] ∈ es := pe.mem_iff.mp (List.getElem_mem hi)
          have look : valV (endsK es) (Sum.inr (txt [e1[i].letter])) = some (.ref e1[i].pair) := end_at end_ mem
          have up5 : ∀ q o, q ≠ x → H q = some o → H5 q = some o := fun q o nq hq => sD _ _ (sm _ _ (K3 q o nq hq))
          have got : DGet H5 de (.str (txt [e1[i].letter])) (some (.ref e1[i].pair)) := look ▸ DGet.k (k := Sum.inr (txt [e1[i].letter])) (up5 _ _ nxd he)
          refine ⟨rfl, ?_⟩
          refine ⟨_, rfl, _, rfl, _, rfl, de, _, rfl, got, e1[i].pair, e1[i].lo, e1[i].hi, rfl, up5 _ _ (epx _ mem) (epair _ mem).1, fun l nl => ?_⟩
          refine ⟨l, _, rfl, upd_same, fun t nt => ?_⟩
          have sl : Same H5 (upd H5 l (.lst [.int (min e1[i].lo e1[i].hi), .int (max e1[i].lo e1[i].hi)])) := same_upd nl
          have st := sl.trans (same_upd (o := .tup [.int (min e1[i].lo e1[i].hi), .int (max e1[i].lo e1[i].hi)]) nt)
          have ntD : t ≠ D := fun z => by rw [z, sl _ _ hD] at nt; cases nt
          have fresh2 : (Sum.inr (txt [e1[i].letter]) : Key) ∉ (endsK e2).map (·.1) := fun z => by
            unfold endsK at z
            rw [List.map_map] at z
            obtain ⟨e, hee, ez⟩ := List.mem_map.mp z
            have ez2 : e.letter = e1[i].letter := List.head_eq_of_cons_eq (txt_inj (Sum.inr.inj ez))
            have lm : e.letter ∈ (e1.take i).map (·.letter) := by
              have q1 : (e2.map fun e => (e.letter, e.lo, e.hi)).map (·.1) = ((e1.take i).map fun e => (e.letter, min e.lo e.hi, max e.lo e.hi)).map (·.1) := by rw [em]
              rw [List.map_map, List.map_map] at q1
              have q2 : e2.map (·.letter) = (e1.take i).map (·.letter) := q1
              rw [← q2]
              exact List.mem_map.mpr ⟨e, hee, rfl⟩
            rw [ez2] at lm
            obtain ⟨j, hj, ej⟩ := List.mem_iff_getElem.mp lm
            rw [List.length_map, List.length_take] at hj
            rw [List.getElem_map, List.getElem_take] at ej
            have up := List.pairwise_iff_getElem.mp rise1 j i (by rw [List.length_map]; omega) (by rw [List.length_map]; exact hi) (by omega)
            rw [List.getElem_map, List.getElem_map, ej] at up
            exact Nat.lt_irrefl _ up
          refine ⟨_, Sum.inr (txt [e1[i].letter]), rfl, st _ _ hD, ?_, same_put (sD.trans st) fresh, e2 ++ [⟨e1[i].letter, t, min e1[i].lo e1[i].hi, max e1[i].lo e1[i].hi⟩], ?_, by rw [List.length_append, l2]; rfl, ?_, ?_⟩
          · unfold endsK
            rw [List.length_map, l2]
            have := pe.length_eq
            exact small1000 (by omega)
          · rw [upd_same, putK_new _ (valV_fresh fresh2)]
            unfold endsK
            rw [List.map_append]
            rfl
          · rw [List.map_append, em, List.take_succ_eq_append_getElem hi, List.map_append]
            rfl
          · intro e hee
            rcases List.mem_append.mp hee with q | q
            · have old := et e q
              have nD' : e.pair ≠ D := fun z => by rw [z, hD] at old; cases old
              rw [upd_ne nD']
              exact st _ _ old
            · rw [List.mem_singleton.mp q]
              show (upd (upd _ t _) D _) t = _
              rw [upd_ne ntD, upd_same]
        · rintro D H4 fresh ⟨sD, e2, hD, l2, em, et⟩
          have hx4 := sD _ _ (sm _ _ hx3)
          have nDx : x ≠ D := ne_of_none (sm _ _ hx3) fresh
          have nDa : a1 ≠ D := ne_of_none (sm _ _ ha1) fresh
          have fH : H D = none := by
            cases hq : H D with
            | none => rfl
            | some o =>
              have z := sm _ _ (K3 D o nDx.symm hq)
              rw [fresh] at z
              cases z
          rw [List.take_length] at em
          refine ⟨_, rfl, x, C, dx, _, rfl, hx4, U.cl, U.nP, (by show 1 < 1000; decide), ?_⟩
          refine hN2 _ _ ⟨D, e2, rfl, ?_, fH, nDa.symm, upd_same, by rw [upd_ne na1x]; exact sD _ _ (sm _ _ ha1), by rw [upd_ne nDx.symm]; exact hD, ?_, ?_, ?_⟩
          · exact fun q o nq hq => by rw [upd_ne nq]; exact sD _ _ (sm _ _ (K3 q o nq hq))
          · have q1 : (e2.map fun e => (e.letter, e.lo, e.hi)).map (·.1) = (e1.map fun e => (e.letter, min e.lo e.hi, max e.lo e.hi)).map (·.1) := by rw [em]
            rw [List.map_map, List.map_map] at q1
            have q2 : e2.map (·.letter) = e1.map (·.letter) := q1
            rw [q2]
            exact rise1
          · rw [em]
            exact pe.map _
          · intro e hee
            have old := et e hee
            have nx : e.pair ≠ x := ne_of old hx4 (by intro z; cases z)
            rw [upd_ne nx]
            exact old
    case tail2 =>
    obtain ⟨a2, es', rfl, K6, fa2, na21, hx6, ha16, ha26, erise, eperm, etup⟩ := hp
    -- self.stars
    intro a3 na3
    have hx7 := (same_upd (o := .dK []) na3) _ _ hx6
    have na3x : a3 ≠ x := fun z => by rw [z, hx6] at na3; cases na3
    have na31 : a3 ≠ a1 := fun z => by rw [z, ha16] at na3; cases na3
    have na32 : a3 ≠ a2 := fun z => by rw [z, ha26] at na3; cases na3
    have na2x : a2 ≠ x := fun z => by rw [z, hx] at fa2; cases fa2
    refine ⟨_, rfl, x, C, dx, _, rfl, hx7, U.cl, U.nS, (by show 2 < 1000; decide), ?_⟩
    have K8 : Kp x H (upd (upd H6 a3 (.dK [])) x (.ins C dx (webF a1 a2 a3))) := fun q o nq hq => by
      rw [upd_ne nq]
      exact (same_upd na3) _ _ (K6 q o nq hq)
    have hx8 : (upd (upd H6 a3 (.dK [])) x (.ins C dx (webF a1 a2 a3))) x = some (.ins C dx (webF a1 a2 a3)) := upd_same
    have h18 : (upd (upd H6 a3 (.dK [])) x (.ins C dx (webF a1 a2 a3))) a1 = some (.dK (marksK ms')) := by rw [upd_ne na1x]; exact (same_upd na3) _ _ ha16
    have h28 : (upd (upd H6 a3 (.dK [])) x (.ins C dx (webF a1 a2 a3))) a2 = some (.dK (endsK es')) := by rw [upd_ne na2x]; exact (same_upd na3) _ _ ha26
    have h38 : (upd (upd H6 a3 (.dK [])) x (.ins C dx (webF a1 a2 a3))) a3 = some (.dK []) := by rw [upd_ne na3x, upd_same]
    have t8 : ∀ e ∈ es', (upd (upd H6 a3 (.dK [])) x (.ins C dx (webF a1 a2 a3))) e.pair = some (.tup [.int e.lo, .int e.hi]) := fun e hee => by
      have nx : e.pair ≠ x := ne_of (etup e hee) hx6 (by intro z; cases z)
      rw [upd_ne nx]
      exact (same_upd na3) _ _ (etup e hee)
    have f3 : H a3 = none := by
      cases hq : H a3 with
      | none => rfl
      | some o =>
        have z := K6 a3 o na3x hq
        rw [na3] at z
        cases z
    show tLock _ _ _ (upd (upd H6 a3 (.dK [])) x (.ins C dx (webF a1 a2 a3)))
    generalize upd (upd H6 a3 (.dK [])) x (.ins C dx (webF a1 a2 a3)) = H8 at K8 hx8 h18 h28 h38 t8 ⊢
    refine ⟨a1, _, h18, trivial, fun od => ?_⟩
    have nd' : (ms'.map (·.1)).Nodup := rise.imp fun hab e => by rw [e] at hab; exact Int.lt_irrefl _ hab
    have elen : es'.length = es.length := by
      have q := eperm.length_eq
      rw [List.length_map, List.length_map] at q
      exact q
    have end' : (es'.map (·.letter)).Nodup := erise.imp fun hab e => by rw [e] at hab; exact Nat.lt_irrefl _ hab
    have hx9 : (upd H8 a1 (.frz od (.dK (marksK ms')))) x = some (.ins C dx (webF a1 a2 a3)) := by rw [upd_ne na1x.symm]; exact hx8
    have h19 : (upd H8 a1 (.frz od (.dK (marksK ms')))) a1 = some (.frz od (.dK (marksK ms'))) := upd_same
    have h29 : (upd H8 a1 (.frz od (.dK (marksK ms')))) a2 = some (.dK (endsK es')) := by rw [upd_ne na21]; exact h28
    have h39 : (upd H8 a1 (.frz od (.dK (marksK ms')))) a3 = some (.dK []) := by rw [upd_ne na31]; exact h38
    have t9 : ∀ e ∈ es', (upd H8 a1 (.frz od (.dK (marksK ms')))) e.pair = some (.tup [.int e.lo, .int e.hi]) := fun e hee => by
      have n1 : e.pair ≠ a1 := ne_of (t8 e hee) h18 (by intro z; cases z)
      rw [upd_ne n1]
      exact t8 e hee
    have back : ∀ q o, q ≠ x → H q = some o → q ≠ a1 → (upd H8 a1 (.frz od (.dK (marksK ms')))) q = some o := fun q o nq hq n1 => by
      rw [upd_ne n1]
      exact K8 q o nq hq
    generalize upd H8 a1 (.frz od (.dK (marksK ms'))) = H9 at hx9 h19 h29 h39 t9 back ⊢
    refine ⟨_, rfl, x, C, dx, _, _, rfl, hx9, U.cl, U.nM, webF_marks _ _ _, a1, od, rfl, .inl ⟨marksK ms', h19, ?_⟩⟩
    have wk := walk_keys (d := a1) (o := od) (kvs := marksK ms')
    have wkl : (marksK ms').length = ms'.length := by unfold marksK; rw [List.length_map]
    rw [wkl] at wk
    refine for_it wk (fun i σ H' => ∃ y, σ = [some (.ref x), some (.ref dm), some (.ref de), y, none] ∧ Kp a3 H9 H' ∧ H' a3 = some (.dK (starsK (ms'.take i) es'))) ⟨none, rfl, Kp.refl _ _, h39⟩ (fun i σ H' _ ⟨_, _, kp, _⟩ => kp _ _ na31.symm h19) ?_ ?_
    · rintro i v σ H10 H11 hi ⟨y, rfl, kp, h3⟩ ⟨rfl, k, vv, hkv, rfl⟩
      have ek : k = Sum.inl ms'[i].1 := by
        unfold marksK at hkv
        rw [List.getElem?_map, List.getElem?_eq_getElem hi] at hkv
        exact (congrArg Prod.fst (Option.some.inj hkv)).symm
      subst ek
      have hx10 := kp _ _ na3x.symm hx9
      have h210 := kp _ _ na32.symm h29
      have t10 : ∀ e ∈ es', H11 e.pair = some (.tup [.int e.lo, .int e.hi]) := fun e hee => kp _ _ (ne_of (t9 e hee) h39 (by intro z; cases z)) (t9 e hee)
      refine ⟨⟨_, rfl⟩, a2, _, h210, trivial, fun o2 => ?_⟩
      have hx12 : (upd H11 a2 (.frz o2 (.dK (endsK es')))) x = some (.ins C dx (webF a1 a2 a3)) := by rw [upd_ne na2x.symm]; exact hx10
      have t12 : ∀ e ∈ es', (upd H11 a2 (.frz o2 (.dK (endsK es')))) e.pair = some (.tup [.int e.lo, .int e.hi]) := fun e hee => by
        have n2 : e.pair ≠ a2 := ne_of (t10 e hee) h210 (by intro z; cases z)
        rw [upd_ne n2]
        exact t10 e hee
      refine ⟨_, rfl, x, C, dx, _, _, rfl, hx12, U.cl, U.nP, webF_pairs _ _ _, a2, o2, rfl, .inl ⟨endsK es', upd_same, fun D nD => ?_⟩⟩
      have we := walk_keys (d := a2) (o := o2) (kvs := endsK es')
      have wel : (endsK es').length = es'.length := by unfold endsK; rw [List.length_map]
      rw [wel] at we
      refine lc_it we (fun j H' => Same (upd H11 a2 (.frz o2 (.dK (endsK es')))) H' ∧ H' D = some (.lst ((star (es'.take j) ms'[i].1).map sig))) ⟨same_upd nD, upd_same⟩ (fun j H' _ hv => hv.1 _ _ upd_same) ?_ ?_
      · rintro j v H13 H14 hj ⟨sD, hD⟩ ⟨rfl, k2, v2, hk2, rfl⟩
        have ek2 : k2 = Sum.inr (txt [es'[j].letter]) := by
          unfold endsK at hk2
          rw [List.getElem?_map, List.getElem?_eq_getElem hj] at hk2
          exact (congrArg Prod.fst (Option.some.inj hk2)).symm
        subst ek2
        have look : valV (endsK es') (Sum.inr (txt [es'[j].letter])) = some (.ref es'[j].pair) := end_at end' (List.getElem_mem hj)
        have got : DGet H14 a2 (.str (txt [es'[j].letter])) (some (.ref es'[j].pair)) := .inl ⟨endsK es', Sum.inr (txt [es'[j].letter]), .inr ⟨o2, sD _ _ upd_same⟩, rfl, look.symm⟩
        refine ⟨rfl, ?_⟩
        refine ⟨_, rfl, _, rfl, x, C, dx, _, _, rfl, sD _ _ hx12, U.cl, U.nP, webF_pairs _ _ _, _, rfl, a2, _, rfl, got, es'[j].pair, _, rfl, .inr (.inl (.inl (sD _ _ (t12 _ (List.getElem_mem hj))))), rfl, rfl, _, rfl, ?_⟩
        show if inV (.int ms'[i].1) [.int es'[j].lo, .int es'[j].hi] = true then _ else _
        rw [in_two]
        refine ite2 (fun c => ?_) (fun c => ?_)
        · have c' := of_decide_eq_true c
          refine ⟨_, rfl, _, hD, ?_, same_put sD nD, ?_⟩
          · rw [List.length_map]
            have q1 := star_len (es'.take j) ms'[i].1
            rw [List.length_take] at q1
            exact small1000 (by omega)
          · rw [upd_same, star_take hj, if_pos c', List.map_append]
            rfl
        · have c' : ¬ (es'[j].lo = ms'[i].1 ∨ es'[j].hi = ms'[i].1) := fun z => c (decide_eq_true z)
          refine ⟨sD, ?_⟩
          rw [star_take hj, if_neg c', List.append_nil]
          exact hD
      · rintro H13 ⟨sD, hD⟩
        rw [List.take_length] at hD
        have un : Same H11 (upd H13 a2 (.dK (endsK es'))) := unlock h210 sD
        have nDa2 : D ≠ a2 := fun z => by rw [z, upd_same] at nD; cases nD
        have hD2 : (upd H13 a2 (.dK (endsK es'))) D = some (.lst (((star es' ms'[i].1).map fun c => txt [c]).map V.str)) := by
          rw [upd_ne nDa2, hD, List.map_map]
          rfl
        have sl := star_len es' ms'[i].1
        refine ⟨sD _ _ upd_same, Str.ofString "", D, (star es' ms'[i].1).map (fun c => txt [c]), rfl, rfl, .inl (SqL.of hD2), ?_, ?_⟩
        · rw [len_ones, txt_empty, txt_len]
          simp
          omega
        rw [join_sigs]
        have h3' := un _ _ h3
        refine ⟨_, rfl, x, C, dx, _, _, rfl, un _ _ hx10, U.cl, U.nS, webF_stars _ _ _, _, rfl, a3, _, rfl, DPut.k (k := Sum.inl ms'[i].1) h3' ?_, ?_⟩
        · unfold starsK
          rw [List.length_map, List.length_take]
          have := pm.length_eq
          exact small1000 (by omega)
        refine ⟨_, rfl, fun q o nq hq => ?_, ?_⟩
        · rw [upd_ne nq]
          exact un _ _ (kp q o nq hq)
        · rw [upd_same, starsK_take hi nd']
    · rintro σ H10 ⟨y, rfl, kp, h3⟩
      rw [List.take_length] at h3
      refine ⟨kp _ _ na31.symm h19, ?_⟩
      have hx10 := kp _ _ na3x.symm hx9
      refine hand _ ms' es' ?_ ⟨dx, a1, a2, a3, by rw [upd_ne na1x.symm]; exact hx10, upd_same, by rw [upd_ne na21]; exact kp _ _ na32.symm h29, by rw [upd_ne na31]; exact h3, ?_⟩ ⟨pm, eperm⟩
      · intro q o nq hq
        have n1 : q ≠ a1 := fun z => by rw [z, fa1] at hq; cases hq
        have n3 : q ≠ a3 := fun z => by rw [z, f3] at hq; cases hq
        rw [upd_ne n1]
        exact kp _ _ n3 (back q o nq hq n1)
      · have memE : ∀ e ∈ es', ∃ e0 ∈ es, e.letter = e0.letter ∧ e.lo = min e0.lo e0.hi ∧ e.hi = max e0.lo e0.hi := fun e hee => by
          obtain ⟨e0, h0, q0⟩ := List.mem_map.mp (eperm.mem_iff.mp (List.mem_map.mpr ⟨e, hee, rfl⟩))
          have a := congrArg Prod.fst q0
          have b := congrArg (fun z => z.2.1) q0
          have c := congrArg (fun z => z.2.2) q0
          exact ⟨e0, h0, a.symm, b.symm, c.symm⟩
        have keyP : ∀ n, n ∈ ms.map (·.1) → n ∈ ms'.map (·.1) := fun n hn => (pm.map _).mem_iff.mpr hn
        refine ⟨rise, fun m hmm => mnode m (pm.mem_iff.mp hmm), fun m hmm => mmark m (pm.mem_iff.mp hmm), erise, ?_, ?_, ?_, ?_⟩
        · intro e hee
          obtain ⟨e0, h0, q1, _, _⟩ := memE e hee
          rw [q1]
          exact ename e0 h0
        · intro e hee
          have n1 : e.pair ≠ a1 := ne_of (t9 e hee) h19 (by intro z; cases z)
          have n3 : e.pair ≠ a3 := ne_of (t9 e hee) h39 (by intro z; cases z)
          rw [upd_ne n1]
          exact kp _ _ n3 (t9 e hee)
        · intro e hee
          obtain ⟨e0, h0, _, q2, q3⟩ := memE e hee
          have := (epair e0 h0).2.1
          omega
        · intro e hee
          obtain ⟨e0, h0, _, q2, q3⟩ := memE e hee
          obtain ⟨_, _, m1, m2⟩ := epair e0 h0
          constructor
          · rw [q2]
            rcases Int.le_total e0.lo e0.hi with c | c
            · rw [Int.min_eq_left c]; exact keyP _ m1
            · rw [Int.min_eq_right c]; exact keyP _ m2
          · rw [q3]
            rcases Int.le_total e0.lo e0.hi with c | c
            · rw [Int.max_eq_right c]; exact keyP _ m2
            · rw [Int.max_eq_left c]; exact keyP _ m1
end


end T02

namespace T02
open PySem PySem.Spec PyProof.Rows L2 Tm
abbrev sWF : Stmt := topS 28
theorem scWF : FnScope ["_law_marks", "_law_ends", "_law_point", "_law_letter", "_law_first", "_law_last"] ["_law_marks", "_law_ends"] (defScope sWF) := ⟨rfl, rfl, rfl, by decide +kernel, rfl, by decide +kernel, by decide +kernel⟩
theorem in_alpha (z : List Nat) : inV (.str (txt z)) (alpha.map sig) = okName z := by
  have h := in_strs (txt z) (alpha.map fun c => txt [c])
  rw [List.map_map] at h
  refine Eq.trans (show _ = _ from h) ?_
  have e : (txt z ∈ alpha.map fun c => txt [c]) ↔ ∃ c, z = [c] ∧ c ∈ alpha := by
    constructor
    · intro m
      obtain ⟨c, hc, q⟩ := List.mem_map.mp m
      exact ⟨c, (txt_inj q).symm, hc⟩
    · rintro ⟨c, rfl, hc⟩
      exact List.mem_map.mpr ⟨c, hc, rfl⟩
  match z, e with
  | [], e => exact decide_eq_false fun m => by obtain ⟨c, q, _⟩ := e.mp m; cases q
  | [c], e => exact decide_eq_decide.mpr ⟨fun m => by obtain ⟨d, q, hd⟩ := e.mp m; cases q; exact hd, fun m => e.mpr ⟨c, rfl, m⟩⟩
  | a :: b :: r, e => exact decide_eq_false fun m => by obtain ⟨c, q, _⟩ := e.mp m; cases q
theorem in_marks (v : Int) : inV (.int v) [.int 0, .int 1] = okMark v := by
  rw [in_two]
  unfold okMark
  by_cases h0 : v = 0 <;> by_cases h1 : v = 1 <;> simp [h0, h1] <;> omega
section
variable {P : Program} {w : World} {K : PySem.W.Frag} {mg : Str → Option Value} {base : Heap}
set_option maxHeartbeats 1000000 in
theorem ok_wfault {f fA : Addr} {fd fdA : FuncData} (F : Fun K "_law_web_fault" "_law_web_fault" sWF f fd) (FA : Fun K "_law_letters" "_law_letters" sLets fA fdA) (bA : Binds K fdA [] []) (gA : mg "_law_letters" = some (.ref fA)) (mso : mg "sorted" = none) (mli : mg "list" = none) : FnOk P w K mg base CX0 2 f fd ["_law_marks", "_law_ends"] spWFault := by
  have GA : FnOk P w K mg base CX0 1 fA fdA [] spLets := ok_lets FA
  refine F.ok scWF (fun vs H Q E h => ?_) (fun cdv A outer s H vs Q E hr h => ?_)
  · obtain ⟨dm, de, ms, es, rfl, _⟩ := h
    rfl
  · obtain ⟨dm, de, ms, es, rfl, hm, he, nd, few, nok, out⟩ := h
    have hnM : (ms.map (·.1)).length < 64 := by rw [List.length_map]; exact few
    have hnN : (es.map fun e => txt e.name).length < 64 := by rw [List.length_map]; exact nok.few
    refine ⟨_, pss_cons (ps_for PassesOwn.never rfl (pi_list (pe_callB (call_sortedDI rfl) (by rfl) mso (by decide +kernel) (pa_cons (pv 0) pa_nil))) (pg_name (i := 2) scWF.nd rfl (.inl rfl))
        (pss_one (ps_if (pt_not (pt_chain op_le op_le pe_int (pv 2) pe_int)) (pss_one (ps_ret (pe_tup (pa_cons pe_str (pa_cons (pv 2) pa_nil))))) pss_nil)))
      (pss_cons (ps_for PassesOwn.never rfl (pi_list (pe_callB (call_sortedDI rfl) (by rfl) mso (by decide +kernel) (pa_cons (pv 0) pa_nil))) (pg_name (i := 2) scWF.nd rfl (.inl rfl))
        (pss_one (ps_if (pt_cmpR op_notIn_seq (pe_dget (hu_of hr) (pv 0) (pv 2) (fun _ _ => rfl)) (pe_lst (pa_cons pe_int (pa_cons pe_int pa_nil))) (by rfl)) (pss_one (ps_ret (pe_tup (pa_cons pe_str (pa_cons (pv 2) pa_nil))))) pss_nil)))
      (pss_cons (ps_for PassesOwn.never rfl (pi_list (pe_callB (call_sortedD rfl) (by rfl) mso (by decide +kernel) (pa_cons (pv 1) pa_nil))) (pg_name (i := 3) scWF.nd rfl (.inl rfl))
        (pss_one (ps_if (pt_cmpR op_notIn_seq (pv 3) (pe_callTy (call_listS rfl) (by rfl) mli boot_list (pa_cons (pe_call0 GA hr (by rfl) gA FA.kp bA .nil pass0) pa_nil)) (by rfl)) (pss_one (ps_ret (pe_tup (pa_cons pe_str (pa_cons (pv 3) pa_nil))))) pss_nil)))
      (pss_cons (ps_for PassesOwn.never rfl (pi_list (pe_callB (call_sortedD rfl) (by rfl) mso (by decide +kernel) (pa_cons (pv 1) pa_nil))) (pg_name (i := 3) scWF.nd rfl (.inl rfl))
        (pss_cons (ps_asg (pe_dget (hu_of hr) (pv 1) (pv 3) (fun _ _ => rfl)) (pg_tup rfl (pgs_cons (pg_name (i := 4) scWF.nd rfl (.inl rfl)) (pgs_cons (pg_name (i := 5) scWF.nd rfl (.inl rfl)) pgs_nil))))
        (pss_one (ps_if (PW.pt (pw_or (pt_cmpR op_eq (pv 4) (pv 5) (nomark _)) (pw_or (pt_cmp (pc_dnotin (hu_of hr) (pv 4) (pv 0))) (pw_or1 (pt_cmp (pc_dnotin (hu_of hr) (pv 5) (pv 0))))))) (pss_one (ps_ret (pe_tup (pa_cons pe_str (pa_cons (pv 3) pa_nil))))) pss_nil))))
      (pss_one (ps_ret (pe_tup (pa_cons pe_str (pa_cons pe_non pa_nil)))))))), ?_⟩
    have atM : ∀ {i : Nat} {v : V}, (((upM ms).map (·.1)).map V.int)[i]? = some v → ∃ hi : i < (upM ms).length, v = V.int (upM ms)[i].1 := by
      intro i v hv
      rw [List.map_map, List.getElem?_map] at hv
      cases e : (upM ms)[i]? with
      | none => rw [e] at hv; cases hv
      | some m =>
        rw [e] at hv
        obtain ⟨hi, em⟩ := List.getElem?_eq_some_iff.mp e
        exact ⟨hi, by rw [em]; exact (Option.some.inj hv).symm⟩
    have atN : ∀ {i : Nat} {v : V}, (((upN es).map fun e => txt e.name).map V.str)[i]? = some v → ∃ hi : i < (upN es).length, v = V.str (txt (upN es)[i].name) := by
      intro i v hv
      rw [List.map_map, List.getElem?_map] at hv
      cases e : (upN es)[i]? with
      | none => rw [e] at hv; cases hv
      | some m =>
        rw [e] at hv
        obtain ⟨hi, em⟩ := List.getElem?_eq_some_iff.mp e
        exact ⟨hi, by rw [em]; exact (Option.some.inj hv).symm⟩
    have nextM : ∀ {p : Int × Int → Bool} {i : Nat} (hi : i < (upM ms).length), (∀ m ∈ (upM ms).take i, p m = true) → p (upM ms)[i] = true → ∀ m ∈ (upM ms).take (i + 1), p m = true := by
      intro p i hi before c m hm
      rw [List.take_succ_eq_append_getElem hi] at hm
      rcases List.mem_append.mp hm with hm | hm
      · exact before m hm
      · rw [List.mem_singleton.mp hm]; exact c
    have nextN : ∀ {p : Nam → Bool} {i : Nat} (hi : i < (upN es).length), (∀ m ∈ (upN es).take i, p m = true) → p (upN es)[i] = true → ∀ m ∈ (upN es).take (i + 1), p m = true := by
      intro p i hi before c m hm
      rw [List.take_succ_eq_append_getElem hi] at hm
      rcases List.mem_append.mp hm with hm | hm
      · exact before m hm
      · rw [List.mem_singleton.mp hm]; exact c
    have lenM : (((upM ms).map (·.1)).map V.int).length = (upM ms).length := by rw [List.length_map, List.length_map]
    have lenN : (((upN es).map fun e => txt e.name).map V.str).length = (upN es).length := by rw [List.length_map, List.length_map]
    -- the nodes
    refine ⟨_, rfl, dm, _, _, rfl, .inl hm, keysM ms, hnM, fun ys p py ry np => ?_⟩
    obtain rfl := upM_of py ry
    have s1 : Same H (upd H p (.lst (((upM ms).map (·.1)).map V.int))) := same_upd np
    have hp : (upd H p (.lst (((upM ms).map (·.1)).map V.int))) p = some (.lst (((upM ms).map (·.1)).map V.int)) := upd_same
    generalize upd H p (.lst (((upM ms).map (·.1)).map V.int)) = H1 at s1 hp ⊢
    refine ⟨p, rfl, ⟨_, SqL.of hp⟩, for_list (K := K) (a := p) (xs := ((upM ms).map (·.1)).map V.int) (fun i σ H' => ∃ y2, σ = [some (.ref dm), some (.ref de), y2, none, none, none] ∧ H' = H1 ∧ ∀ m ∈ (upM ms).take i, okNode m.1 = true) ⟨none, rfl, rfl, fun m hm => by cases hm⟩
      (fun i σ H' _ ⟨_, _, e, _⟩ => by rw [e]; exact SqL.of hp) ?_ ?_⟩
    · rintro i v σ H' hv ⟨y, rfl, rfl, before⟩
      obtain ⟨hi, rfl⟩ := atM hv
      have gone : okNode (upM ms)[i].1 = false → ∀ t, H' t = none → Q (.ref t) (upd H' t (.tup [.str "invalidnode", .int (upM ms)[i].1])) := fun c t nt => by
        have q := out H' t s1 nt
        rw [fault_node (faultM_node hi before c)] at q
        exact q
      refine ⟨_, rfl, 0, _, rfl, rfl, _, rfl, ?_⟩
      by_cases c0 : (0 : Int) ≤ (upM ms)[i].1
      case neg =>
        have c : okNode (upM ms)[i].1 = false := by unfold okNode; rw [decide_eq_false c0]; rfl
        exact ifF (decide_eq_false c0) ⟨_, rfl, iteT ⟨_, rfl, (by show 2 ≤ sizeLine; decide), fun t nt => gone c t nt⟩⟩
      refine ifT (decide_eq_true c0) ⟨_, 11, rfl, rfl, _, rfl, ?_⟩
      by_cases c1 : (upM ms)[i].1 ≤ 11
      · have c : okNode (upM ms)[i].1 = true := okNode_iff.mpr ⟨c0, by omega⟩
        rw [decide_eq_true c1]
        exact iteF ⟨_, rfl, rfl, nextM (p := fun m => okNode m.1) hi before c⟩
      · have c : okNode (upM ms)[i].1 = false := by
          cases e : okNode (upM ms)[i].1 with
          | false => rfl
          | true => exact absurd (okNode_iff.mp e).2 (by omega)
        rw [decide_eq_false c1]
        exact iteT ⟨_, rfl, (by show 2 ≤ sizeLine; decide), fun t nt => gone c t nt⟩
    rintro σ H' ⟨y, rfl, rfl, nodes⟩
    rw [lenM, List.take_length] at nodes
    -- the marks
    refine ⟨_, rfl, dm, _, _, rfl, .inl (s1 _ _ hm), keysM ms, hnM, fun zs p2 pz rz np2 => ?_⟩
    obtain rfl := upM_of pz rz
    have s2 := s1.trans (same_upd (o := .lst (((upM ms).map (·.1)).map V.int)) np2)
    have hz2 : (upd H' p2 (.lst (((upM ms).map (·.1)).map V.int))) p2 = some (.lst (((upM ms).map (·.1)).map V.int)) := upd_same
    generalize upd H' p2 (.lst (((upM ms).map (·.1)).map V.int)) = H2 at s2 hz2 ⊢
    refine ⟨p2, rfl, ⟨_, SqL.of hz2⟩, for_list (K := K) (a := p2) (xs := ((upM ms).map (·.1)).map V.int) (fun i σ H' => ∃ y2, σ = [some (.ref dm), some (.ref de), y2, none, none, none] ∧ Same H2 H' ∧ ∀ m ∈ (upM ms).take i, okMark m.2 = true) ⟨y, rfl, Same.refl _, fun m hm => by cases hm⟩ (fun i σ H' _ ⟨_, _, e, _⟩ => SqL.of (e _ _ hz2)) ?_ ?_⟩
    · rintro i v σ H3 hv ⟨y', rfl, s3, before⟩
      obtain ⟨hi, rfl⟩ := atM hv
      have look : valV (marksK ms) (Sum.inl (upM ms)[i].1) = some (.int (upM ms)[i].2) := mark_at nd ((upM_perm ms).mem_iff.mp (List.getElem_mem hi))
      have got : DGet H3 dm (.int (upM ms)[i].1) (some (.int (upM ms)[i].2)) := look ▸ DGet.k (k := Sum.inl (upM ms)[i].1) (s3 _ _ (s2 _ _ hm))
      refine ⟨_, rfl, _, rfl, dm, _, rfl, got, (by show 2 ≤ sizeLine; decide), fun l nl => ?_⟩
      have s4 := s3.trans (same_upd (o := .lst [.int 0, .int 1]) nl)
      refine ⟨l, _, rfl, .inl (SqL.of upd_same), rfl, rfl, _, rfl, ?_⟩
      show if (!inV (.int (upM ms)[i].2) [.int 0, .int 1]) = true then _ else _
      rw [in_marks]
      cases c : okMark (upM ms)[i].2 with
      | true => exact iteF ⟨_, rfl, s4, nextM (p := fun m => okMark m.2) hi before c⟩
      | false =>
        refine iteT ⟨_, rfl, (by show 2 ≤ sizeLine; decide), fun t nt => ?_⟩
        have q := out _ t (s2.trans s4) nt
        rw [fault_mark (faultM_mark nodes hi before c)] at q
        exact q
    rintro σ H3 ⟨y3, rfl, s3, marks⟩
    rw [lenM, List.take_length] at marks
    have okM := faultM_ok nodes marks
    have rest := fault_rest (ns := es) okM
    have s13 := s2.trans s3
    clear s1 s2 s3 hp hz2 np np2 nodes marks okM py ry pz rz atM nextM lenM
    -- the names
    refine ⟨_, rfl, de, _, _, rfl, .inl (s13 _ _ he), keysN es, hnN, fun ys p py ry np => ?_⟩
    obtain rfl := upN_of py ry
    have s1 := s13.trans (same_upd (o := .lst (((upN es).map fun e => txt e.name).map V.str)) np)
    have hp : (upd H3 p (.lst (((upN es).map fun e => txt e.name).map V.str))) p = some (.lst (((upN es).map fun e => txt e.name).map V.str)) := upd_same
    generalize upd H3 p (.lst (((upN es).map fun e => txt e.name).map V.str)) = H4 at s1 hp ⊢
    refine ⟨p, rfl, ⟨_, SqL.of hp⟩, for_list (K := K) (a := p) (xs := ((upN es).map fun e => txt e.name).map V.str) (fun i σ H' => ∃ y, σ = [some (.ref dm), some (.ref de), y3, y, none, none] ∧ Same H4 H' ∧ ∀ e ∈ (upN es).take i, okName e.name = true) ⟨none, rfl, Same.refl _, fun m hm => by cases hm⟩
      (fun i σ H' _ ⟨_, _, e, _⟩ => SqL.of (e _ _ hp)) ?_ ?_⟩
    · rintro i v σ H5 hv ⟨y, rfl, s5, before⟩
      obtain ⟨hi, rfl⟩ := atN hv
      refine ⟨_, rfl, rfl, _, rfl, by rw [txt_alpha, txt_len]; decide, fun l nl => ?_⟩
      rw [txt_alpha, txt_cps]
      have s6 := s5.trans (same_upd (o := .lst (alpha.map sig)) nl)
      refine ⟨l, _, rfl, .inl (SqL.of upd_same), rfl, by decide +kernel, _, rfl, ?_⟩
      show if (!inV (.str (txt (upN es)[i].name)) (alpha.map sig)) = true then _ else _
      rw [in_alpha]
      cases c : okName (upN es)[i].name with
      | true => exact iteF ⟨_, rfl, s6, nextN (p := fun e => okName e.name) hi before c⟩
      | false =>
        refine iteT ⟨_, rfl, (by show 2 ≤ sizeLine; decide), fun t nt => ?_⟩
        have q := out _ t (s1.trans s6) nt
        rw [rest, faultN_name hi before c] at q
        exact q
    rintro σ H5 ⟨y4, rfl, s5, names⟩
    rw [lenN, List.take_length] at names
    have s14 := s1.trans s5
    clear s1 s5 s13 hp np py ry
    -- the ends
    refine ⟨_, rfl, de, _, _, rfl, .inl (s14 _ _ he), keysN es, hnN, fun ys p py ry np => ?_⟩
    obtain rfl := upN_of py ry
    have s1 := s14.trans (same_upd (o := .lst (((upN es).map fun e => txt e.name).map V.str)) np)
    have hp : (upd H5 p (.lst (((upN es).map fun e => txt e.name).map V.str))) p = some (.lst (((upN es).map fun e => txt e.name).map V.str)) := upd_same
    generalize upd H5 p (.lst (((upN es).map fun e => txt e.name).map V.str)) = H6 at s1 hp ⊢
    refine ⟨p, rfl, ⟨_, SqL.of hp⟩, for_list (K := K) (a := p) (xs := ((upN es).map fun e => txt e.name).map V.str) (fun i σ H' => ∃ y z u, σ = [some (.ref dm), some (.ref de), y3, y, z, u] ∧ H' = H6 ∧ ∀ e ∈ (upN es).take i, okJoin ms e.lo e.hi = true) ⟨y4, none, none, rfl, rfl, fun m hm => by cases hm⟩
      (fun i σ H' _ ⟨_, _, _, _, e, _⟩ => by rw [e]; exact SqL.of hp) ?_ ?_⟩
    · rintro i v σ H7 hv ⟨y, z, u, rfl, rfl, before⟩
      obtain ⟨hi, rfl⟩ := atN hv
      have here := (upN_perm es).mem_iff.mp (List.getElem_mem hi)
      have look : valV (namsK es) (Sum.inr (txt (upN es)[i].name)) = some (.ref (upN es)[i].pair) := nam_at nok.nd here
      have got : DGet H7 de (.str (txt (upN es)[i].name)) (some (.ref (upN es)[i].pair)) := look ▸ DGet.k (k := Sum.inr (txt (upN es)[i].name)) (s1 _ _ he)
      have hm7 := s1 _ _ hm
      have gone : okJoin ms (upN es)[i].lo (upN es)[i].hi = false → ∀ t, H7 t = none → Q (.ref t) (upd H7 t (.tup [.str "invalidedge", .str (txt (upN es)[i].name)])) := fun c t nt => by
        have q := out H7 t s1 nt
        rw [rest, faultN_edge names hi before c] at q
        exact q
      refine ⟨_, rfl, _, rfl, de, _, rfl, got, (upN es)[i].pair, _, rfl, SqT.of (s1 _ _ (nok.pair _ here)), rfl, ?_⟩
      trace_state
      refine ⟨_, _, rfl, _, _, rfl, rfl, ?_⟩
      refine ⟨_, rfl, _, rfl, rfl, _, rfl, ?_⟩
      have ei : decide (V.int (upN es)[i].lo = V.int (upN es)[i].hi) = decide ((upN es)[i].lo = (upN es)[i].hi) := decide_eq_decide.mpr ⟨fun h => V.int.inj h, fun h => by rw [h]⟩
      rw [ei]
      unfold okJoin hasN at gone
      cases c : decide ((upN es)[i].lo = (upN es)[i].hi) with
      | true =>
        rw [c] at gone
        exact iteT (iteT ⟨_, rfl, (by show 2 ≤ sizeLine; decide), fun t nt => gone rfl t nt⟩)
      | false =>
      rw [c] at gone
      refine iteF ⟨_, rfl, _, rfl, dm, _, rfl, DGet.k (k := Sum.inl (upN es)[i].lo) hm7, _, rfl, ?_⟩
      cases cx : (valV (marksK ms) (Sum.inl (upN es)[i].lo)).isSome with
      | false =>
        rw [cx] at gone
        exact iteT (iteT ⟨_, rfl, (by show 2 ≤ sizeLine; decide), fun t nt => gone rfl t nt⟩)
      | true =>
      rw [cx] at gone
      refine iteF ⟨_, rfl, _, rfl, dm, _, rfl, DGet.k (k := Sum.inl (upN es)[i].hi) hm7, _, rfl, ?_⟩
      cases cy : (valV (marksK ms) (Sum.inl (upN es)[i].hi)).isSome with
      | false =>
        rw [cy] at gone
        exact iteT ⟨_, rfl, (by show 2 ≤ sizeLine; decide), fun t nt => gone rfl t nt⟩
      | true =>
        refine iteF ⟨_, _, _, rfl, rfl, nextN (p := fun e => okJoin ms e.lo e.hi) hi before ?_⟩
        show okJoin ms (upN es)[i].lo (upN es)[i].hi = true
        unfold okJoin hasN
        rw [c, cx, cy]
        rfl
    rintro σ H7 ⟨y, z, u, rfl, rfl, joins⟩
    rw [lenN, List.take_length] at joins
    refine ⟨(by show 2 ≤ sizeLine; decide), fun t nt => ?_⟩
    have q := out H7 t s1 nt
    rw [rest, faultN_ok names joins] at q
    exact q
end


end T02

namespace T02
open PySem PySem.Spec PyProof.Rows L2 Tm
open ClX
abbrev sNodes : Stmt := inClass (topS 17) 14
theorem scNodes : FnScope ["self"] ["self"] (defScope sNodes) := ⟨rfl, rfl, rfl, by decide +kernel, rfl, by decide +kernel, by decide +kernel⟩
section
variable {P : Program} {w : World} {K : PySem.W.Frag} {mg : Str → Option Value} {base : Heap}
theorem ok_nodes {f C : Addr} {fd : FuncData} (F : Fun K "nodes" "Web.nodes" sNodes f fd) (U : WebT K mg C) (ml : mg "list" = none) : FnOk P w K mg base CX0 1 f fd ["self"] (spNodes C) := by
  refine F.ok scNodes (fun vs H Q E h => ?_) (fun cdv A outer s H vs Q E hr h => ?_)
  · obtain ⟨x, ms, es, rfl, _⟩ := h
    rfl
  · obtain ⟨x, ms, es, rfl, ⟨dx, a1, a2, a3, hx, h1, _⟩, q⟩ := h
    refine ⟨_, pss_one (ps_ret (pe_callTy (call_listD rfl) (by rfl) ml boot_list (pa_cons (pe_fld (pv 0) rfl) pa_nil))), ?_⟩
    refine ⟨_, rfl, x, C, dx, _, _, rfl, hx, U.cl, U.nM, webF_marks _ _ _, a1, _, rfl, .inl h1, fun p np => ?_⟩
    have e : ((marksK ms).map fun kv => kV kv.1) = (ms.map (·.1)).map V.int := by
      unfold marksK
      rw [List.map_map, List.map_map]
      rfl
    rw [e]
    exact q p np
end

open ClX
abbrev sEdges : Stmt := inClass (topS 17) 15
theorem scEdges : FnScope ["self"] ["self"] (defScope sEdges) := ⟨rfl, rfl, rfl, by decide +kernel, rfl, by decide +kernel, by decide +kernel⟩
section
variable {P : Program} {w : World} {K : PySem.W.Frag} {mg : Str → Option Value} {base : Heap}
theorem ok_edges {f C : Addr} {fd : FuncData} (F : Fun K "edges" "Web.edges" sEdges f fd) (U : WebT K mg C) (ml : mg "list" = none) : FnOk P w K mg base CX0 1 f fd ["self"] (spEdges C) := by
  refine F.ok scEdges (fun vs H Q E h => ?_) (fun cdv A outer s H vs Q E hr h => ?_)
  · obtain ⟨x, ms, es, rfl, _⟩ := h
    rfl
  · obtain ⟨x, ms, es, rfl, ⟨dx, a1, a2, a3, hx, _, h2, _⟩, q⟩ := h
    refine ⟨_, pss_one (ps_ret (pe_callTy (call_listD rfl) (by rfl) ml boot_list (pa_cons (pe_fld (pv 0) rfl) pa_nil))), ?_⟩
    refine ⟨_, rfl, x, C, dx, _, _, rfl, hx, U.cl, U.nP, webF_pairs _ _ _, a2, _, rfl, .inl h2, fun p np => ?_⟩
    have e : ((endsK es).map fun kv => kV kv.1) = (es.map (·.letter)).map sig := by
      unfold endsK
      rw [List.map_map, List.map_map]
      rfl
    rw [e]
    exact q p np
end


end T02

/-! == of two dicts whose values are data, either answer -/
namespace Tm
open PySem PySem.Spec PyProof.Rows L2
inductive Hits (K : PySem.W.Frag) (H : Hp) (ls : List (Key × V)) : List (Key × V) → Bool → Prop where
  | nil : Hits K H ls [] true
  | miss {k : Key} {v : V} {r : List (Key × V)} (no : valV ls k = none) : Hits K H ls ((k, v) :: r) false
  | hit {k : Key} {v u : V} {d e : PyData} {r : List (Key × V)} {b : Bool} (at_ : valV ls k = some u) (dv : Dp K H v d) (du : Dp K H u e) (sd : SeqAt.shaped d = true) (se : SeqAt.shaped e = true) (rest : Hits K H ls r b) : Hits K H ls ((k, v) :: r) (PyData.eqv d e && b)
def rEqDK (K : PySem.W.Frag) : R2 := fun x y H Q => ∃ (a b : Addr) (ks ls : List (Key × V)) (r : Bool), x = .ref a ∧ y = .ref b ∧ H a = some (.dK ks) ∧ H b = some (.dK ls) ∧ (ks.length = ls.length → Hits K H ls ks r) ∧ Q (.bl (ks.length == ls.length && r)) H
theorem hits_seen {X : Cx} {pins : List (Addr × Obj)} {σ : L2.St} {H : Hp} {s : Shared} {A : Around} {ls : List (Key × V)} {vb : List (Key × Value)} (inv : Inv X pins σ H s) (low : A.units + 64 < cLine) (rb : KV ls vb) {ks : List (Key × V)} {r : Bool} (h : Hits X.K H ls ks r) :
    ∀ {va : List (Key × Value)}, KV ks va → PySem.W.KeqHitsP X.prog X.w A s vb va r := by
  induction h with
  | nil =>
    intro va ra
    cases ra
    exact .nil
  | @miss k v rest no =>
    intro va ra
    cases ra with
    | @cons p q ps qs h t =>
      obtain ⟨key, w⟩ := q
      obtain ⟨e, _⟩ := h
      have e : k = key := e
      subst e
      have rr : RelO none (valueAt vb k) := by rw [← no]; exact rb.val k
      refine .miss ?_
      cases hv : valueAt vb k with
      | none => rfl
      | some z => rw [hv] at rr; cases rr
  | @hit k v u d e rest b at_ dv du sd se _ ih =>
    intro va ra
    cases ra with
    | @cons p q ps qs h t =>
      obtain ⟨key, w⟩ := q
      obtain ⟨ek, rv⟩ := h
      have ek : k = key := ek
      subst ek
      have rr : RelO (some u) (valueAt vb k) := by rw [← at_]; exact rb.val k
      obtain ⟨y, hy, ry⟩ := rr.some_of
      obtain ⟨as, r1⟩ := Dp.reads inv d v w dv rv
      obtain ⟨bs, r2⟩ := Dp.reads inv e u y du ry
      exact .hit hy (SeqAt.eqAt_reads d e A s w y as bs r1 r2 (SeqAt.canLay_of_shaped sd) (SeqAt.canLay_of_shaped se) (SeqAt.room_of_shaped sd low)).eqP (ih t)
theorem op_eqDK {X : Cx} (low : X.A.units + 80 < cLine) : OpR X (compareOp .Eq) (rEqDK X.K) := by
  intro pins s σ H x y v u Q inv rx ry ask
  obtain ⟨a, b, ks, ls, r, rfl, rfl, ha, hb, hits, q⟩ := ask
  obtain rfl : v = Value.ref a := rx
  obtain rfl : u = Value.ref b := ry
  obtain ⟨_, ya, va, ra, da⟩ := dk_of inv.hok ha
  obtain ⟨_, yb, vb, rb, db⟩ := dk_of inv.hok hb
  show wpAny _ _ (richCompare .Eq (.ref a) (.ref b)) _ _ _
  refine PySem.W.rcP_dicts (knd := mixKind X.prog X.w) (r := r) ya yb da db (by omega) (fun e => hits_seen inv (by show X.A.units + 1 + 64 < cLine; omega) rb (hits ?_) ra) X.xe _ ⟨.bl _, H, inv, rfl, ?_⟩
  · rw [ra.length, rb.length]
    exact e
  · rw [← ra.length, ← rb.length]
    exact q
end Tm

/-! == of two pairs of dicts, either answer; a dict beside an empty one -/
namespace Tm
open PySem PySem.Spec PyProof.Rows L2
section
variable {X : Cx}
/-- the same dict, or two whose values are data -/
def DictsSay (K : PySem.W.Frag) (H : Hp) (a c : Addr) (r : Bool) : Prop :=
  (a = c ∧ r = true) ∨ (a ≠ c ∧ ∃ (ks ls : List (Key × V)) (e : Key → Bool), H a = some (.dK ks) ∧ H c = some (.dK ls) ∧
    (∀ k v u, (k, v) ∈ ks → valV ls k = some u → ∃ d d', Dp K H v d ∧ Dp K H u d' ∧ SeqAt.shaped d = true ∧ SeqAt.shaped d' = true ∧ PyData.eqv d d' = e k) ∧ r = (ks.length == ls.length && ks.all fun p => (valV ls p.1).isSome && e p.1))
def rEqPair (K : PySem.W.Frag) : R2 := fun x y H Q => ∃ (p q a b c d : Addr) (r1 r2 : Bool), x = .ref p ∧ y = .ref q ∧ H p = some (.tup [.ref a, .ref b]) ∧ H q = some (.tup [.ref c, .ref d]) ∧ DictsSay K H a c r1 ∧ DictsSay K H b d r2 ∧ Q (.bl (r1 && r2)) H
theorem kv_in {ks : List (Key × V)} {va : List (Key × Value)} (ra : KV ks va) {k : Key} {w : Value} (h : (k, w) ∈ va) : ∃ v, (k, v) ∈ ks ∧ RelV v w := by
  induction ra with
  | nil => cases h
  | @cons p q ps qs hd t ih =>
    rcases List.mem_cons.mp h with e | h
    · subst e
      obtain ⟨e1, e2⟩ := hd
      have e1 : p.1 = k := e1
      exact ⟨p.2, by rw [← e1]; exact List.mem_cons_self, e2⟩
    · obtain ⟨v, hv, rv⟩ := ih h
      exact ⟨v, List.mem_cons_of_mem _ hv, rv⟩
theorem kv_all {ks ls : List (Key × V)} {va vb : List (Key × Value)} (ra : KV ks va) (rb : KV ls vb) (e : Key → Bool) : (va.all fun p => (valueAt vb p.1).isSome && e p.1) = ks.all fun p => (valV ls p.1).isSome && e p.1 := by
  have one : ∀ k, (valueAt vb k).isSome = (valV ls k).isSome := fun k => by
    have rr := rb.val k
    cases h1 : valV ls k with
    | none => rw [h1] at rr; cases h2 : valueAt vb k with
      | none => rfl
      | some z => rw [h2] at rr; cases rr
    | some u => rw [h1] at rr; obtain ⟨y, hy, _⟩ := rr.some_of; rw [hy]; rfl
  induction ra with
  | nil => rfl
  | @cons p q ps qs hd t ih =>
    obtain ⟨e1, _⟩ := hd
    have e1 : p.1 = q.1 := e1
    rw [List.all_cons, List.all_cons, ih, one, e1]
theorem dicts_tree {pins : List (Addr × Obj)} {σ : L2.St} {H : Hp} {s : Shared} {a c : Addr} {r : Bool} (inv : Inv X pins σ H s) (h : DictsSay X.K H a c r) : PySem.W.EqTree X.prog X.w s 65 (.ref a) (.ref c) r := by
  rcases h with ⟨rfl, rfl⟩ | ⟨ne, ks, ls, e, ha, hc, each, rfl⟩
  · exact .same
  · obtain ⟨_, ya, va, ra, da⟩ := dk_of inv.hok ha
    obtain ⟨_, yc, vc, rc, dc⟩ := dk_of inv.hok hc
    have t := PySem.W.EqTree.dicts (prog := X.prog) (w := X.w) (knd := mixKind X.prog X.w) (n := 64) (e := e) ne ya yc da dc fun k v y hm hv => by
      obtain ⟨v0, hv0, rv0⟩ := kv_in ra hm
      have rr := rc.val k
      cases hu : valV ls k with
      | none => rw [hu, hv] at rr; cases rr
      | some u =>
      rw [hu] at rr
      obtain ⟨y', hy', ry⟩ := rr.some_of
      rw [hv] at hy'
      cases hy'
      obtain ⟨d, d', dv, du, sd, sd', eq⟩ := each k v0 u hv0 hu
      obtain ⟨as, r1⟩ := Dp.reads inv d v0 v dv rv0
      obtain ⟨bs, r2⟩ := Dp.reads inv d' u y du ry
      rw [← eq]
      exact .leaf fun A low => SeqAt.eqAt_reads d d' A s v y as bs r1 r2 (SeqAt.canLay_of_shaped sd) (SeqAt.canLay_of_shaped sd') (SeqAt.room_of_shaped sd low)
    rw [kv_all ra rc, ← ra.length, ← rc.length] at t
    exact t
theorem two_refs {a b : Addr} {its : List Value} (h : Vals [V.ref a, V.ref b] its) : its = [.ref a, .ref b] := by
  cases h with
  | cons h1 t => cases t with
    | cons h2 t2 => cases t2; cases h1; cases h2; rfl
theorem op_eqPair (low : X.A.units + 80 < cLine) : OpR X (compareOp .Eq) (rEqPair X.K) := by
  intro pins s σ H x y v u Q inv rx ry ask
  obtain ⟨p, q, a, b, c, d, r1, r2, rfl, rfl, hp, hq, s1, s2, give⟩ := ask
  obtain rfl : v = Value.ref p := rx
  obtain rfl : u = Value.ref q := ry
  obtain ⟨it1, v1, t1, _⟩ := inv.tuple (SqT.of hp)
  obtain ⟨it2, v2, t2, _⟩ := inv.tuple (SqT.of hq)
  have i1 : it1 = [.ref a, .ref b] := two_refs v1
  have i2 : it2 = [.ref c, .ref d] := two_refs v2
  subst i1
  subst i2
  have all : (((List.range (min (#[Value.ref a, .ref b]).size (#[Value.ref c, .ref d]).size)).all fun j => if j = 0 then r1 else r2) && (#[Value.ref a, .ref b]).size == (#[Value.ref c, .ref d]).size) = (r1 && r2) := by
    show ((List.range 2).all (fun j => if j = 0 then r1 else r2) && true) = (r1 && r2)
    cases r1 <;> cases r2 <;> rfl
  refine PySem.W.eq_tuplesT (n := 65) (e := fun j => if j = 0 then r1 else r2) t1 t2 ?_ (by show X.A.units + 66 < cLine; omega) ⟨.bl (r1 && r2), H, inv, ?_, give⟩
  · intro j h1 h2
    match j, h1, h2 with
    | 0, _, _ => exact dicts_tree inv s1
    | 1, _, _ => exact dicts_tree inv s2
    | j + 2, h1, _ => exact absurd h1 (by show ¬ j + 2 < 2; omega)
  · exact congrArg Value.bool all
/-- d != {} -/
def rNeEmpty : R2 := fun x y H Q => ∃ (a b : Addr) (ks : List (Key × V)), x = .ref a ∧ y = .ref b ∧ H a = some (.dK ks) ∧ H b = some (.dK []) ∧ Q (.bl (!(ks.length == 0))) H
theorem op_neEmpty (low : X.A.units + 80 < cLine) : OpR X (compareOp .NotEq) rNeEmpty := by
  intro pins s σ H x y v u Q inv rx ry ask
  obtain ⟨a, b, ks, rfl, rfl, ha, hb, give⟩ := ask
  obtain rfl : v = Value.ref a := rx
  obtain rfl : u = Value.ref b := ry
  obtain ⟨_, ya, va, ra, da⟩ := dk_of inv.hok ha
  obtain ⟨_, yb, vb, rb, db⟩ := dk_of inv.hok hb
  cases rb
  refine PySem.W.keq_ne (knd := mixKind X.prog X.w) (r := true) ya yb da db (by omega) (fun z => ?_) ⟨.bl _, H, inv, ?_, give⟩
  · match va, z with
    | [], _ => exact .nil
  · show Value.bool (!(va.length == 0 && true)) = _
    rw [← ra.length, Bool.and_true]
end
end Tm

/-! != of two pairs of dicts that are alike -/
namespace Tm
open PySem PySem.Spec PyProof.Rows L2
open PySem.SeqAt (EqIn)
section
variable {prog : Program} {w : World} {A : Around} {E : Value → Shared → Prop} {s : Shared}
set_option maxHeartbeats 2000000 in
theorem ne_two {l b : Addr} {x1 x2 y1 y2 : Value} {Q : Value → Shared → Prop} (hl : s.heap.IsTuple l #[x1, x2]) (hb : s.heap.IsTuple b #[y1, y2]) (hu : A.units < cLine)
    (e1 : EqIn prog w A.in1 s x1 y1 true) (e2 : EqIn prog w A.in1 s x2 y2 true) (h : Q (.bool false) s) : wpAny (model prog w) A (compareOp .NotEq (.ref l) (.ref b)) Q E s := by
  show wpAny _ _ (richCompare .NotEq (.ref l) (.ref b)) _ _ _
  obtain ⟨⟨cls, dd, data, sl⟩, ho, hc, n, hd⟩ := id hl
  obtain ⟨⟨cls2, dd2, data2, sl2⟩, ho2, hc2, n2, hd2⟩ := id hb
  simp only at hc hd hc2 hd2
  subst hc hd hc2 hd2
  have same1 : ∀ {E : Value → Shared → Prop} {R : Bool → Shared → Prop}, R true s → wpAny (model prog w) A.in1 (eqBool x1 y1) R E s := fun {E R} q => e1 E R q
  have same2 : ∀ {E : Value → Shared → Prop} {R : Bool → Shared → Prop}, R true s → wpAny (model prog w) A.in1 (eqBool x2 y2) R E s := fun {E R} q => e2 E R q
  refine wpAny_richCompare_same_room (T := "tuple") (op := .NotEq) ⟨_, ho, rfl⟩ ⟨_, ho2, rfl⟩ F.slot_tuple_ne (wpAny_call_entry F.slot_tuple_ne ⟨_, ho, rfl⟩ F.entry_tuple_ne ?_ (F.args_tuple_ne_2 _ _)) hu
  wp_walk
  have sub : isSubtype (.type "tuple") (.type "tuple") = pure true := by rw [isSubtype_type]; kernel_rfl
  show wpAny _ _ (isSubtype (.type "tuple") (.type "tuple")) _ _ _
  rw [sub]
  apply wpAny_pure
  rw [if_neg (by decide)]
  apply wpAny_bind
  apply wpAny_tupleItemsOf ho rfl
  apply wpAny_bind
  apply wpAny_tupleItemsOf ho2 rfl
  apply wpAny_bind
  show wpAny _ _ (forIn [(x1, y1), (x2, y2)] _ _) _ _ _
  simp only [List.forIn_cons, List.forIn_nil]
  apply wpAny_bind
  apply wpAny_bind
  apply same1
  rw [if_neg (by decide)]
  apply wpAny_pure
  apply wpAny_bind
  apply wpAny_bind
  apply same2
  rw [if_neg (by decide)]
  apply wpAny_pure
  apply wpAny_pure
  show wpAny _ _ (ret (Value.bool false)) _ _ _
  exact wpAny_pure ⟨_, rfl, (fun z => nomatch z), h⟩
end
def rNePair (K : PySem.W.Frag) : R2 := fun x y H Q => ∃ (p q a b c d : Addr), x = .ref p ∧ y = .ref q ∧ H p = some (.tup [.ref a, .ref b]) ∧ H q = some (.tup [.ref c, .ref d]) ∧ DictsSay K H a c true ∧ DictsSay K H b d true ∧ Q (.bl false) H
theorem op_nePair {X : Cx} (low : X.A.units + 80 < cLine) : OpR X (compareOp .NotEq) (rNePair X.K) := by
  intro pins s σ H x y v u Q inv rx ry ask
  obtain ⟨p, q, a, b, c, d, rfl, rfl, hp, hq, s1, s2, give⟩ := ask
  obtain rfl : v = Value.ref p := rx
  obtain rfl : u = Value.ref q := ry
  obtain ⟨it1, v1, t1, _⟩ := inv.tuple (SqT.of hp)
  obtain ⟨it2, v2, t2, _⟩ := inv.tuple (SqT.of hq)
  have i1 : it1 = [.ref a, .ref b] := two_refs v1
  have i2 : it2 = [.ref c, .ref d] := two_refs v2
  subst i1
  subst i2
  refine ne_two t1 t2 (by omega) ((dicts_tree inv s1).at _ (by show X.A.units + 1 + 65 < cLine; omega)) ((dicts_tree inv s2).at _ (by show X.A.units + 1 + 65 < cLine; omega)) ⟨.bl false, H, inv, rfl, give⟩
/-- a dict and its copy -/
theorem say_copy {K : PySem.W.Frag} {H : Hp} {a c : Addr} {ks : List (Key × V)} (ha : H a = some (.dK ks)) (hc : H c = some (.dK ks)) (nd : (ks.map (·.1)).Nodup) (data : ∀ k v, (k, v) ∈ ks → ∃ d, Dp K H v d ∧ SeqAt.shaped d = true ∧ PyData.eqv d d = true) : DictsSay K H a c true := by
  by_cases ac : a = c
  · exact .inl ⟨ac, rfl⟩
  refine .inr ⟨ac, ks, ks, fun _ => true, ha, hc, fun k v u hv hu => ?_, ?_⟩
  · have e : some v = some u := (valV_mem nd hv).symm.trans hu
    injection e with e
    subst e
    obtain ⟨d, h1, h2, h3⟩ := data k v hv
    exact ⟨d, d, h1, h1, h2, h2, h3⟩
  · symm
    rw [Bool.and_eq_true, beq_iff_eq]
    refine ⟨rfl, List.all_eq_true.mpr fun p hp => ?_⟩
    rw [valV_mem nd (k := p.1) (v := p.2) hp]
    rfl
end Tm

namespace T02
open PySem PySem.Spec PyProof.Rows L2 Tm
open L2H
abbrev sField : Stmt := topS 24
theorem scField : FnScope ["_law_e"] ["_law_e"] (defScope sField) := ⟨rfl, rfl, rfl, by decide +kernel, rfl, by decide +kernel, by decide +kernel⟩
section
variable {P : Program} {w : World} {K : PySem.W.Frag} {mg : Str → Option Value} {base : Heap}
theorem walk_field {f : Addr} {cdv : Value} {A : Around} {outer : List Env} {s : Shared} {H : Hp} {Q : VK} {a : Addr} {oe : Obj} {cls : Value} {d : Option Addr} (is : Zc cls d oe) (flds : ∃ vs, oe.data = .fields vs) (told : spFieldE K cls d H Q) :
    ∃ t, PSs (cxH CX0 P w K mg base ["_law_e"] "_law_field" (defScope sField) f cdv A outer s H (fun _ _ _ => False) (a, oe)) (defBody sField) t ∧ t { nx := fun _ H' => Q .non H', rt := Q } (L2.start ["_law_e"] [.ref a]) H := by
  obtain ⟨c, v, ex, q⟩ := told
  have pin : (a, oe) ∈ (cxH CX0 P w K mg base ["_law_e"] "_law_field" (defScope sField) f cdv A outer s H (fun _ _ _ => False) (a, oe)).pn := List.mem_cons_self
  refine ⟨_, pss_cons (ps_if (pt_cmpR op_in_seq (pe_pinned pin is flds (pv 0)) (pe_lst (pa_cons pe_str (pa_cons pe_str (pa_cons pe_str (pa_cons pe_str (pa_cons pe_str (pa_cons pe_str pa_nil))))))) (by rfl)) (pss_one (ps_ret (pe_pinned pin is flds (pv 0)))) pss_nil)
    (pss_cons (ps_if (pt_cmpR op_in_seq (pe_pinned pin is flds (pv 0)) (pe_lst (pa_cons pe_str (pa_cons pe_str (pa_cons pe_str (pa_cons pe_str (pa_cons pe_str (pa_cons pe_str (pa_cons pe_str pa_nil)))))))) (by rfl)) (pss_one (ps_ret (pe_pinned pin is flds (pv 0)))) pss_nil)
    (pss_cons (ps_if (pt_cmpR op_in_seq (pe_pinned pin is flds (pv 0)) (pe_lst (pa_cons pe_str (pa_cons pe_str pa_nil))) (by rfl)) (pss_one (ps_ret (pe_pinned pin is flds (pv 0)))) pss_nil)
    (pss_cons (ps_if (pt_cmpR op_in_seq (pe_pinned pin is flds (pv 0)) (pe_lst (pa_cons pe_str (pa_cons pe_str pa_nil))) (by rfl)) (pss_one (ps_ret (pe_pinned pin is flds (pv 0)))) pss_nil)
    (pss_cons (ps_if (pt_cmpR op_eq (pe_pinned pin is flds (pv 0)) pe_str (nomark _)) (pss_one (ps_ret (pe_pinned pin is flds (pv 0)))) pss_nil)
    (pss_cons (ps_if (pt_cmpR op_eq (pe_pinned pin is flds (pv 0)) pe_str (nomark _)) (pss_one (ps_ret (pe_pinned pin is flds (pv 0)))) pss_nil)
    (pss_one (ps_ret (pe_ifExp (pt_cmpR op_eq (pe_pinned pin is flds (pv 0)) pe_str (nomark _)) (pe_pinned pin is flds (pv 0)) pe_non)))))))), ?_⟩
  obtain ⟨C, dd, fs, ec, T, noC, ed, hdd, hc, hf⟩ := ex.ex
  -- one test of the code against a list of texts
  have inL : ∀ (c : Str) (zs : List Str), (if false = true then !inV (.str c) (zs.map V.str) else inV (.str c) (zs.map V.str)) = decide (c ∈ zs) := fun c zs => by rw [in_strs]; rfl
  unfold attrOf at hf
  have s0 : Same H H := Same.refl H
  refine ⟨_, rfl, rfl, C, dd, fs, _, ec, T, noC, ed, s0 _ _ hdd, hc, (by show 6 ≤ sizeLine; decide), fun l1 n1 => ⟨l1, _, rfl, .inl (SqL.of upd_same), rfl, rfl, _, rfl, ?_⟩⟩
  have s1 := s0.trans (same_upd (o := .lst (nodeCodes.map V.str)) n1)
  by_cases h1 : c ∈ nodeCodes
  · rw [if_pos h1] at hf
    refine ifT ((inL c nodeCodes).trans (decide_eq_true h1)) ?_
    exact ⟨_, rfl, rfl, C, dd, fs, _, ec, T, hf.1, ed, s1 _ _ hdd, hf.2, q _ s1⟩
  rw [if_neg h1] at hf
  refine ifF ((inL c nodeCodes).trans (decide_eq_false h1)) ?_
  refine ⟨_, rfl, rfl, C, dd, fs, _, ec, T, noC, ed, s1 _ _ hdd, hc, (by show 7 ≤ sizeLine; decide), fun l2 n2 => ⟨l2, _, rfl, .inl (SqL.of upd_same), rfl, rfl, _, rfl, ?_⟩⟩
  have s2 := s1.trans (same_upd (o := .lst (nameCodes.map V.str)) n2)
  by_cases h2 : c ∈ nameCodes
  · rw [if_pos h2] at hf
    refine ifT ((inL c nameCodes).trans (decide_eq_true h2)) ?_
    exact ⟨_, rfl, rfl, C, dd, fs, _, ec, T, hf.1, ed, s2 _ _ hdd, hf.2, q _ s2⟩
  rw [if_neg h2] at hf
  refine ifF ((inL c nameCodes).trans (decide_eq_false h2)) ?_
  refine ⟨_, rfl, rfl, C, dd, fs, _, ec, T, noC, ed, s2 _ _ hdd, hc, (by show 2 ≤ sizeLine; decide), fun l3 n3 => ⟨l3, _, rfl, .inl (SqL.of upd_same), rfl, rfl, _, rfl, ?_⟩⟩
  have s3 := s2.trans (same_upd (o := .lst (indexCodes.map V.str)) n3)
  by_cases h3 : c ∈ indexCodes
  · rw [if_pos h3] at hf
    refine ifT ((inL c indexCodes).trans (decide_eq_true h3)) ?_
    exact ⟨_, rfl, rfl, C, dd, fs, _, ec, T, hf.1, ed, s3 _ _ hdd, hf.2, q _ s3⟩
  rw [if_neg h3] at hf
  refine ifF ((inL c indexCodes).trans (decide_eq_false h3)) ?_
  refine ⟨_, rfl, rfl, C, dd, fs, _, ec, T, noC, ed, s3 _ _ hdd, hc, (by show 2 ≤ sizeLine; decide), fun l4 n4 => ⟨l4, _, rfl, .inl (SqL.of upd_same), rfl, rfl, _, rfl, ?_⟩⟩
  have s4 := s3.trans (same_upd (o := .lst (limitCodes.map V.str)) n4)
  by_cases h4 : c ∈ limitCodes
  · rw [if_pos h4] at hf
    refine ifT ((inL c limitCodes).trans (decide_eq_true h4)) ?_
    exact ⟨_, rfl, rfl, C, dd, fs, _, ec, T, hf.1, ed, s4 _ _ hdd, hf.2, q _ s4⟩
  rw [if_neg h4] at hf
  refine ifF ((inL c limitCodes).trans (decide_eq_false h4)) ?_
  refine ⟨_, rfl, rfl, C, dd, fs, _, ec, T, noC, ed, s4 _ _ hdd, hc, rfl, _, rfl, ?_⟩
  by_cases h5 : c = "invalidword"
  · rw [if_pos h5] at hf
    refine ifT (decide_eq_true (by rw [h5])) ?_
    exact ⟨_, rfl, rfl, C, dd, fs, _, ec, T, hf.1, ed, s4 _ _ hdd, hf.2, q _ s4⟩
  rw [if_neg h5] at hf
  refine ifF (decide_eq_false (fun e => h5 (V.str.inj e))) ?_
  refine ⟨_, rfl, rfl, C, dd, fs, _, ec, T, noC, ed, s4 _ _ hdd, hc, rfl, _, rfl, ?_⟩
  by_cases h6 : c = "invalidstring"
  · rw [if_pos h6] at hf
    refine ifT (decide_eq_true (by rw [h6])) ?_
    exact ⟨_, rfl, rfl, C, dd, fs, _, ec, T, hf.1, ed, s4 _ _ hdd, hf.2, q _ s4⟩
  rw [if_neg h6] at hf
  refine ifF (decide_eq_false (fun e => h6 (V.str.inj e))) ?_
  refine ⟨_, rfl, rfl, C, dd, fs, _, ec, T, noC, ed, s4 _ _ hdd, hc, rfl, _, rfl, ?_⟩
  by_cases h7 : c = "invaliddocument"
  · rw [if_pos h7] at hf
    refine ifT (decide_eq_true (by rw [h7])) ?_
    exact ⟨_, rfl, rfl, C, dd, fs, _, ec, T, hf.1, ed, s4 _ _ hdd, hf.2, q _ s4⟩
  rw [if_neg h7] at hf
  refine ifF (decide_eq_false (fun e => h7 (V.str.inj e))) ?_
  have hv : v = .non := hf
  rw [← hv]
  exact q _ s4
end


end T02

namespace T02
open PySem PySem.Spec PyProof.Rows L2 Tm
open LamX L2H
abbrev sTried : Stmt := topS 25
theorem scTried : FnScope ["_law_ask", "_law_e"] ["_law_ask"] (defScope sTried) := ⟨rfl, rfl, rfl, by decide +kernel, rfl, by decide +kernel, by decide +kernel⟩
/-- what is asked of an error that leaves the lambda: it is one of the two kinds, and its code and field are known -/
def wTried (K : PySem.W.Frag) (CT CM : Addr) (Q : VK) : XK := fun cls d H => ∃ b, PySem.W.exmOne K cls (.ref CT) = some b ∧ (b = false → PySem.W.exmOne K cls (.ref CM) = some true) ∧
  ∃ (c : Str) (v : V), ExcIs K cls d H c v ∧ ∀ H' t, Same H H' → H' t = none → Q (.ref t) (upd H' t (.tup [.str c, v]))
def TTried (K : PySem.W.Frag) (CT CM : Addr) : (XK → Hp → VK → Prop) → Hp → VK → Prop := fun tl H Q => tl (wTried K CT CM Q) H (fun v H' => [V.str (Str.ofString ""), v].length ≤ sizeLine ∧ ∀ t, H' t = none → Q (.ref t) (upd H' t (.tup [.str (Str.ofString ""), v])))
theorem takes_len {X : Cx} {W : WX} (tk : Takes X W) : Takes X (fun cls d σ H => σ.length = X.N.length → W cls d σ H) := by
  rintro u s ⟨a, B, s0, pins, σ, H, cls, d, e, inv, ground, slots, sky, new, os, bare, wish⟩
  exact tk u s ⟨a, B, s0, pins, σ, H, cls, d, e, inv, ground, slots, sky, new, os, bare, wish inv.len⟩
section
variable {X : Cx}
theorem tried_gives {g fF CT CM : Addr} {cdg : Value} {q : Str} {kV doc pm cdv ct oc : Value} {an od : Option Addr} {osl : Array (Option Value)} {k : Nat}
    (mT : X.mg "ThreadError" = some (.ref CT)) (mM : X.mg "Missing" = some (.ref CM))
    (written : X.K.lookup fF = some ⟨oc, od, .func (PySem.W.fnOf "_law_field" "_law_field" (defArgs sField) (defBody sField) (defScope sField) .none kV doc pm an cdv ct), osl⟩) (code : PySem.W.codeIn X.K cdv "_law_field" = true)
    (binds : L2.Binds X.K (PySem.W.fnOf "_law_field" "_law_field" (defArgs sField) (defBody sField) (defScope sField) .none kV doc pm an cdv ct) ["_law_e"] []) (holds : X.mg "_law_field" = some (.ref fF)) (kept : PySem.W.keepIn X.K (.ref fF) = true) (room : Room (k + 3) X.A) :
    GivesTo X ["_law_ask", "_law_e"] "_law_tried" (defScope sTried) g cdg (defBody sTried) "_law_ask" q (TTried X.K CT CM) := by
  intro f c' s H Q tl act hc ask
  have suite : ∀ (a : Addr) (oe : Obj) (cls : Value) (d : Option Addr) (pn : List (Addr × Obj)) (p1 p2 p3 p4 p5 p6 p7 : Pos) (k0 : Nat), Zc cls d oe → (∃ vs, oe.data = .fields vs) →
      PSs ((cxOf C8.CX0 X.prog X.w X.K X.mg X.base ["_law_ask", "_law_e"] "_law_tried" (defScope sTried) g cdg X.A X.stack s H C8.E0).nox.suite a ((a, oe) :: pn))
        [.Return (some (.Tuple [.Attribute (.Name "_law_e" p1) "code" p2, .Call (.Name "_law_field" p3) [.Name "_law_e" p4] [] p5] k0 p6)) p7]
        (tRet (tTup (tCons (tXfA X.K a cls d "code" (tVar 1)) (tCons (fun σ H Q => tVar 1 σ H fun v H1 => [v] = [V.ref a] ∧ spFieldE X.K cls d H1 Q) tNil)))) := by
    intro a oe cls d pn p1 p2 p3 p4 p5 p6 p7 k0 is flds
    refine pss_one (ps_ret (pe_tup (pa_cons (pe_pinned List.mem_cons_self is flds (pv 1)) (pa_cons (pe_given (k := 0) written code scField binds rfl holds kept ?_ (fun outer s2 H2 Q2 _ told => walk_field is flds told) (pv 1)) pa_nil))))
    have r := (roomH_of (room.deeper (envOfC "_law_tried" (defScope sTried) s.heap.objs.size g cdg))).mono (show 1 ≤ k + 2 by omega)
    exact ⟨r.dp, r.un⟩
  refine ⟨_, pss_one (ps_try_named (X := (cxOf C8.CX0 X.prog X.w X.K X.mg X.base ["_law_ask", "_law_e"] "_law_tried" (defScope sTried) g cdg X.A X.stack s H C8.E0).nox) (i := 1) (n := "_law_e")
      (tb := fun W D σ H => ∃ Ech : XK, (∀ cls d σ' H', Ech cls d H' → σ'.length = 2 → W cls d σ' H') ∧ σ[0]? = some (some (.ref f)) ∧ H c' = some (CodeO c' q) ∧ tl Ech H (fun v H' => [V.str (Str.ofString ""), v].length ≤ sizeLine ∧ ∀ t, H' t = none → D.rt (.ref t) (upd H' t (.tup [.str (Str.ofString ""), v]))))
      rfl rfl scTried.nd rfl rfl LamX.takes0 (fun W pn xe tk _ => ?body)
      (.cons ⟨rfl, by decide, .inl mT⟩ (fun a oe cls d pn is fl => suite a oe cls d pn _ _ _ _ _ _ _ _ is fl) (.cons ⟨rfl, by decide, .inl mM⟩ (fun a oe cls d pn is fl => suite a oe cls d pn _ _ _ _ _ _ _ _ is fl) .nil))), ?reads⟩
  case body =>
    refine ⟨fun pins s1 σ1 H1 D inv1 ask1 => ?_⟩
    obtain ⟨Ech, wish, slot, code1, rest⟩ := ask1
    have calls := fun p1 p2 => act (fun cls d σ H => σ.length = 2 → W cls d σ H) pn xe Ech p1 p2 (takes_len tk) (fun cls d σ' H' e => wish cls d σ' H' e)
    exact (pss_one (ps_ret (pe_tup (pa_cons pe_str (pa_cons (calls _ _) pa_nil))))).run pins s1 σ1 H1 D inv1 ⟨slot, code1, rest⟩
  case reads =>
    refine ⟨wTried X.K CT CM Q, ?_, rfl, hc, ask⟩
    rintro cls d σ' H' ⟨b, kind, other, c, v, ex, out⟩ len
    have told : ∀ a, H' a = none → tRet (tTup (tCons (tXfA X.K a cls d "code" (tVar 1)) (tCons (fun σ H Q => tVar 1 σ H fun v H1 => [v] = [V.ref a] ∧ spFieldE X.K cls d H1 Q) tNil))) (nameless 1 { nx := fun _ H' => Q .non H', rt := Q }) (σ'.set 1 (some (.ref a))) H' := by
      intro a new
      have at1 : (σ'.set 1 (some (.ref a)))[1]? = some (some (V.ref a)) := by rw [List.getElem?_set_self (by omega)]
      obtain ⟨C, dd, fs, h1, h2, h3, h4, h5, h6, h7⟩ := ex.ex
      refine ⟨_, at1, rfl, C, dd, fs, _, h1, h2, h3, h4, h5, h6, _, at1, rfl, c, v, ex, fun H2 same => ⟨(by show 2 ≤ sizeLine; decide), fun t nt => out H2 t same nt⟩⟩
    refine ⟨b, kind, fun _ a new => told a new, fun hb => ?_⟩
    exact ⟨true, other hb, fun _ a new => told a new, fun z => Bool.noConfusion z⟩
end


end T02

/-! the notes of a web -/
namespace Tm
open PySem PySem.Spec PyProof.Rows L2
abbrev Tri := Nat × Int × Int
/-- two edges share an end -/
def meetT (a b : Tri) : Bool := decide (b.2.1 = a.2.1 ∨ b.2.2 = a.2.1) || decide (b.2.1 = a.2.2 ∨ b.2.2 = a.2.2)
def pairsT : List Tri → List (List Nat)
  | [] => []
  | a :: r => ((r.filter fun b => !meetT a b).map fun b => [a.1, b.1]) ++ pairsT r
def noteRow (ts : List Tri) (a : Tri) : List (List Nat) := (ts.filter fun b => decide (a.1 < b.1) && !meetT a b).map fun b => [a.1, b.1]
def notesT (ts : List Tri) : List (List Nat) := ts.flatMap (noteRow ts)
theorem notes_behind : ∀ (s p : List Tri), ((p ++ s).map (·.1)).Pairwise (· < ·) → s.flatMap (noteRow (p ++ s)) = pairsT s
  | [], _, _ => rfl
  | a :: r, p, h => by
    have rest := notes_behind r (p ++ [a]) (by rw [List.append_assoc]; exact h)
    rw [List.append_assoc] at rest
    rw [List.flatMap_cons]
    show noteRow (p ++ a :: r) a ++ r.flatMap (noteRow (p ++ ([a] ++ r))) = _
    rw [rest]
    show _ = ((r.filter fun b => !meetT a b).map fun b => [a.1, b.1]) ++ pairsT r
    congr 1
    unfold noteRow
    rw [List.map_append, List.pairwise_append] at h
    obtain ⟨_, hr, hp⟩ := h
    have e1 : (p.filter fun b => decide (a.1 < b.1) && !meetT a b) = [] := by
      rw [List.filter_eq_nil_iff]
      intro b hb
      have := hp b.1 (List.mem_map.mpr ⟨b, hb, rfl⟩) a.1 (List.mem_map.mpr ⟨a, List.mem_cons_self, rfl⟩)
      simp only [Bool.and_eq_true, decide_eq_true_eq, not_and]
      omega
    have e2 : (r.filter fun b => decide (a.1 < b.1) && !meetT a b) = r.filter fun b => !meetT a b := by
      apply List.filter_congr
      intro b hb
      have := (List.pairwise_cons.mp hr).1 b.1 (List.mem_map.mpr ⟨b, hb, rfl⟩)
      rw [decide_eq_true this, Bool.true_and]
    rw [List.filter_append, e1, List.nil_append, List.filter_cons, if_neg (by simp), e2]
theorem notes_pairs (ts : List Tri) (h : (ts.map (·.1)).Pairwise (· < ·)) : notesT ts = pairsT ts := notes_behind ts [] h
theorem pairs_len : ∀ ts : List Tri, (pairsT ts).length ≤ ts.length * ts.length
  | [] => Nat.zero_le _
  | a :: r => by
    show (((r.filter fun b => !meetT a b).map fun b => [a.1, b.1]) ++ pairsT r).length ≤ _
    rw [List.length_append, List.length_map]
    have h1 := List.length_filter_le (fun b => !meetT a b) r
    have h2 := pairs_len r
    have h3 : (r.length + 1) * (r.length + 1) = r.length * r.length + 2 * r.length + 1 := by
      rw [Nat.add_mul, Nat.mul_add]
      omega
    show _ ≤ (r.length + 1) * (r.length + 1)
    omega
def tw (ns : List Nat) : V := .str (txt ns)
/-- a walk with any body -/
theorem go_it {J : It} {n : Nat} {G : Hp → Prop} {Y : Nat → Hp → V → Hp → Prop} (walk : Walk J n G Y) {B : V → Hp → (Hp → Prop) → Prop} {H0 : Hp} {End : Hp → Prop} (Pv : Nat → Hp → Prop) (first : Pv 0 H0) (stay : ∀ i H, i ≤ n → Pv i H → G H)
    (turn : ∀ i x H H', i < n → Pv i H → Y i H x H' → B x H' (Pv (i + 1))) (done : ∀ H, Pv n H → End H) :
    ∃ W : Nat → Nat → Hp → Prop, (∃ m, W 0 m H0) ∧ ∀ i m H, W i m H → (J.stop i H ∧ End H) ∨ (J.go i H ∧ ∃ Nx : Hp → Prop, (∀ H', Nx H' → ∃ m', m' < m ∧ W (i + 1) m' H') ∧ ∀ x H', J.yld i H x H' → B x H' Nx) := by
  let W : Nat → Nat → Hp → Prop := fun i left H => i + left = n ∧ Pv i H
  refine ⟨W, ⟨n, Nat.zero_add n, first⟩, ?_⟩
  intro i left H here
  have stands := stay i H (by have := here.1; omega) here.2
  cases left with
  | zero =>
    have e : i = n := by have := here.1; omega
    rw [e] at here ⊢
    exact Or.inl ⟨walk.stops H stands, done H here.2⟩
  | succ k =>
    have lt : i < n := by have := here.1; omega
    refine Or.inr ⟨walk.goes i H lt stands, Pv (i + 1), ?_, ?_⟩
    · intro H' hp
      exact ⟨k, Nat.lt_succ_self k, by have := here.1; omega, hp⟩
    · intro x H' y
      exact turn i x H H' lt here.2 (walk.yields i H x H' lt stands y)
def spTouch (C : Addr) : Sp := fun vs H Q _ => ∃ (x : Addr) (e f : Edg) (ms : List (Int × Int)) (es : List Edg), vs = [.ref x, .str (txt [e.letter]), .str (txt [f.letter])] ∧ WebAt C H x ms es ∧ e ∈ es ∧ f ∈ es ∧ Q (.bl (meetT (tri e) (tri f))) H
def spNotes (C : Addr) : Sp := fun vs H Q _ => ∃ (x : Addr) (ms : List (Int × Int)) (es : List Edg), vs = [.ref x] ∧ WebAt C H x ms es ∧ es.length ≤ 24 ∧ ∀ H' p, Same H H' → H p = none → H' p = some (.lst ((notesT (es.map tri)).map tw)) → Q (.ref p) H'
def spLWebG (C : Addr) : Sp := fun vs H Q _ => ∃ (t : Addr) (ms : List (Int × Int)) (es : List Edg), vs = [.ref t] ∧ RawG H t ms es ∧
  ∀ H' x ms' es', Same H H' → WebAt C H' x ms' es' → Made ms ms' es es' → Q (.ref x) H'
def spMeets : Sp := fun vs H Q _ => ∃ (t : Addr) (e f : Edg) (ms : List (Int × Int)) (es : List Edg), vs = [.ref t, .str (txt [e.letter]), .str (txt [f.letter])] ∧ RawG H t ms es ∧ e ∈ es ∧ f ∈ es ∧ ∀ H', Same H H' → Q (.bl (meetT (tri e) (tri f))) H'
def spLPairs : Sp := fun vs H Q _ => ∃ (t : Addr) (ms : List (Int × Int)) (es : List Edg), vs = [.ref t] ∧ RawG H t ms es ∧ ∀ H' p ts, Same H H' → H p = none → ts.Perm (es.map tri) → (ts.map (·.1)).Pairwise (· < ·) → H' p = some (.lst ((pairsT ts).map tw)) → Q (.ref p) H'
theorem RawG.keep {H H' : Hp} {b l t : Addr} {ms : List (Int × Int)} {es : List Edg} (r : RawG H t ms es) (B : Bag H b l) (k : Kp b H H') : RawG H' t ms es := by
  obtain ⟨u, hb⟩ := B.hbl
  obtain ⟨dm, de, h1, h2, h3, h4, ⟨n1, n2, n3, h5⟩, h6⟩ := r
  have ne : ∀ {a : Addr} {o : HO}, H a = some o → (∀ u, o ≠ .lst u) → a ≠ b := fun ha hn e => by
    rw [e, hb] at ha
    exact hn u (Option.some.inj ha).symm
  exact ⟨dm, de, k _ _ (ne h1 fun u z => by cases z) h1, k _ _ (ne h2 fun u z => by cases z) h2, k _ _ (ne h3 fun u z => by cases z) h3, h4, ⟨n1, n2, n3, fun e he => ⟨k _ _ (ne (h5 e he).1 fun u z => by cases z) (h5 e he).1, (h5 e he).2⟩⟩, h6⟩
end Tm

/-! a lambda with one default, which its body does not read, handed to a def -/
namespace Tm
open PySem PySem.Spec PyProof.Rows L2 LamX
/-- its own names are none of the maker's; the others are the maker's cells, or global -/
structure LamD (names : List Str) (sc scope : Scope) : Prop where
  isFn : scope.kind = .function
  plain : scope.isCoroutine = false ∧ scope.isGenerator = false
  each : ∀ y ∈ scope.names, y.2 ≠ .cell ∧ (y.2 = .local → y.1 ∉ names) ∧ (y.2 = .free → sc.names.lookup y.1 = some .cell ∨ sc.names.lookup y.1 = some .free)
def lamDB (names : List Str) (sc scope : Scope) : Bool := decide (scope.kind = .function) && (!scope.isCoroutine && !scope.isGenerator) && decide (∀ y ∈ scope.names, y.2 ≠ .cell ∧ (y.2 = .local → y.1 ∉ names) ∧ (y.2 = .free → sc.names.lookup y.1 = some .cell ∨ sc.names.lookup y.1 = some .free))
theorem lamD_by {names : List Str} {sc scope : Scope} (h : lamDB names sc scope = true) : LamD names sc scope := by
  unfold lamDB at h
  rw [Bool.and_eq_true, Bool.and_eq_true, Bool.and_eq_true] at h
  exact ⟨of_decide_eq_true h.1.1, ⟨by simpa using h.1.2.1, by simpa using h.1.2.2⟩, of_decide_eq_true h.2⟩
theorem clo_cell {cells : List (Str × Addr)} {names : List (Str × NameKind)} {y : Str} {c : Addr} (has : ∀ z ∈ names, z.2 = .free → ∃ d, cells.lookup z.1 = some d) (h : (cloFrom cells names []).lookup y = some c) : cells.lookup y = some c := by
  rcases cloFrom_mem (PySem.mem_of_lookup h) with z | ⟨m, e⟩
  · exact absurd z List.not_mem_nil
  · obtain ⟨d, hd⟩ := has (y, .free) m rfl
    have hd' : cells.lookup y = some d := hd
    rw [hd'] at e
    rw [hd', e]
    rfl
theorem clo_has (cells : List (Str × Addr)) {names : List (Str × NameKind)} {y : Str} (h : names.lookup y = some .free) : ∃ c, (cloFrom cells names []).lookup y = some c := mem_lookup (cloFrom_has (PySem.mem_of_lookup h))
section
variable {X : Cx} {s s1 : Shared} {H HZ : Hp} {σ : L2.St} {pins : List (Addr × Obj)}
theorem LamD.has {scope : Scope} (L : LamD X.N X.env.scope scope) (ok : X.Ok) : ∀ y ∈ scope.names, y.2 = .free → ∃ c, X.env.cells.lookup y.1 = some c := fun y hy e => ok.has _ ((L.each y hy).2.2 e)
/-- the body of the lambda begins: its frame is at the end of the heap -/
theorem lamD_enters {A : Around} {outer : List Env} {E : XK} {scope : Scope} {f c' : Addr} {h₁ : Heap} {tk : Nat} {m : Str → Option Value} (I : Inv X pins σ H s) (L : LamD X.N X.env.scope scope) (at_ : Env0 X.prog X.w X.K X.mg X.base A outer s1 HZ) (calm : A.handled = none)
    (since : Un (frs X.stack) [] H HZ s.heap s1.heap) (frame : h₁.Ns s1.heap.objs.size m) (grows : ∀ b o, s1.heap.get? b = some o → h₁.get? b = some o) : Inv (lamCx X A outer s1 HZ E scope f c') [] σ HZ { s1 with heap := h₁, toks := tk } := by
  have cellOf : ∀ {y : Str} {c : Addr}, (cloFrom X.env.cells scope.names []).lookup y = some c → X.env.cells.lookup y = some c := fun e => clo_cell (L.has I.ok) e
  have stays : ∀ {y : Str} {c : Addr} {v : Option Value}, X.env.cells.lookup y = some c → s.heap.IsCell c v → h₁.IsCell c v := by
    rintro y c v hc ⟨o, ho, hd⟩
    obtain ⟨sl, later⟩ := since.any ho (I.freeC y c hc) List.not_mem_nil
    exact ⟨_, grows _ _ later, hd⟩
  have empty : ∀ {P : Prop} (b : Addr), b ∈ (lamCx X A outer s1 HZ E scope f c').ex → P := fun b hb => absurd (show b ∈ ([] : List Addr) from hb) List.not_mem_nil
  have notCell : ∀ {y : Str} {P : Prop}, scope.names.lookup y = some .cell → P := fun h => absurd rfl (L.each _ (PySem.mem_of_lookup h)).1
  exact {
    ok := {
      mod := at_.mod
      kind := L.isFn
      glob := rfl
      blt := rfl
      above := Nat.le_refl _
      inj := fun y z c hy hz => I.ok.inj y z c (cellOf hy) (cellOf hz)
      has := fun y hy => Or.elim (show scope.names.lookup y = some .cell ∨ scope.names.lookup y = some .free from hy) notCell (clo_has X.env.cells)
      cab := fun y c z _ => Bool.noConfusion (show false = true from z)
      hd := fun _ => calm
      frames := Around.frames_deeper at_.frames
      stk := Or.inr ⟨rfl, rfl⟩
      exf := fun b hb => empty b hb
      bs := at_.bs
      bsz := at_.bsz
      noex := fun b _ _ hb => empty b hb
      exfs := fun b hb => empty b hb
      funs := at_.funs
      frf := at_.frf }
    os := rfl
    bare := at_.bare
    base := Un.kept grows
    loc := by
      refine ⟨m, frame, fun i y v hi hv vis => ?_⟩
      rcases (show scope.names.lookup y = some .local ∨ scope.names.lookup y = some .cell ∨ scope.names.lookup y = some .free from vis) with own | z | taken
      · exact absurd (List.mem_of_getElem? hi) ((L.each _ (PySem.mem_of_lookup own)).2.1 rfl)
      · exact notCell z
      · have there := (L.each _ (PySem.mem_of_lookup taken)).2.2 rfl
        obtain ⟨m0, _, slots⟩ := I.loc
        obtain ⟨u, rel, look⟩ := slots i y v hi hv (Or.inr there)
        obtain ⟨d, hd⟩ := clo_has X.env.cells taken
        refine ⟨u, rel, Or.inr ⟨Or.inr taken, d, hd, ?_⟩⟩
        rcases look with ⟨isLocal, _⟩ | ⟨_, d2, hd2, holds⟩
        · have isLocal : X.env.scope.names.lookup y = some .local := isLocal
          rcases there with z | z
          · rw [isLocal] at z; cases z
          · rw [isLocal] at z; cases z
        · have same : d2 = d := Option.some.inj (hd2.symm.trans (cellOf hd))
          rw [← same]
          exact stays hd2 holds
    cell := fun y c hc => by
      obtain ⟨v, is⟩ := I.cell y c (cellOf hc)
      exact ⟨v, stays (cellOf hc) is⟩
    free := at_.hok.fresh (Nat.le_refl _)
    freeC := fun y c hc => by
      obtain ⟨v, o, ho, _⟩ := I.cell y c (cellOf hc)
      exact since.free c o ho (I.freeC y c (cellOf hc)) List.not_mem_nil
    pin := fun p hp => absurd (show p ∈ ([] : List (Addr × Obj)) ++ [] from hp) (by simp)
    hok := at_.hok.kept grows
    len := I.len }
/-- the lambda called where it was handed to -/
theorem pe_askD {Ng : List Str} {qg : Str} {sg : Scope} {g f c' t : Addr} {cdg u doc pm ctv : Value} {params : Arguments} {body : Expr} {scope : Scope} {k i : Nat} {a own : Str} {pn : List (Addr × Obj)} {xe : Value → Shared → Prop} {W : WX} {E : XK} {tb : TE} {p1 p2 : Pos}
    (I : Inv X pins σ H s) (L : LamD X.N X.env.scope scope) (made : s.heap.get? f = some (PySem.W.kdv_obj "<lambda>" (X.env.qual ++ "<lambda>") params (.expr body) scope (cloFrom X.env.cells scope.names []) (.ref t) doc pm c' ctv)) (fNew : H f = none) (fOut : f ∉ frs X.stack)
    (dflt : s.heap.get? t = some (PySem.W.kdv_tup [u])) (tNew : H t = none) (tOut : t ∉ frs X.stack)
    (binds : ∀ fd : FuncData, fd = PySem.W.kdv_fn "<lambda>" (X.env.qual ++ "<lambda>") params (.expr body) scope (cloFrom X.env.cells scope.names []) (.ref t) doc pm (.ref c') ctv → ∃ k, bindArgs fd ⟨[], []⟩ = seqItems? fd.defaults >>= k ∧ k (some [u].toArray) = pure [(own, u)])
    (isOwn : scope.names.lookup own = some .local)
    (tk : Takes ((cxOf C8.CX0 X.prog X.w X.K X.mg X.base Ng qg sg g cdg X.A X.stack s H C8.E0).tr pn xe) W) (wish : ∀ cls d σ' H', E cls d H' → W cls d σ' H') (room : Room (k + 1) (X.A.deeper (envOfC qg sg s.heap.objs.size g cdg)))
    (reads : ∀ (A : Around) (outer : List Env) (s : Shared) (H : Hp), Room k (A.deeper (lamEnv X scope s.heap.objs.size f c')) → PE (lamCx X A outer s H E scope f c') body tb)
    (slot : Ng[i]? = some a) (seen : Vis sg a) (hd : (a == ("__debug__" : Str)) = false := by decide) (hcd : (a == ("__classdict__" : Str)) = false := by decide) :
    PE ((cxOf C8.CX0 X.prog X.w X.K X.mg X.base Ng qg sg g cdg X.A X.stack s H C8.E0).tr pn xe) (.Call (.Name a p1) [] [] p2)
      (fun slots heap want => slots[i]? = some (some (.ref f)) ∧ heap c' = some (CodeO c' (X.env.qual ++ "<lambda>")) ∧ tb σ heap want) := by
  constructor
  rintro pinsZ sZ σZ HZ Q IZ ⟨atSlot, code, told⟩
  refine wpAny_Call_Name_kw ?_
  have name := (pe_var (pos := p1) (i := i) slot seen hd hcd).run pinsZ sZ σZ HZ (fun v H1 => v = .ref f ∧ H1 = HZ) IZ ⟨_, atSlot, rfl, rfl⟩
  refine thn name ?_
  rintro v0 s1 ⟨v, H1, I1, rel, rfl, rfl⟩
  obtain rfl : v0 = Value.ref f := rel
  have noEx : ∀ b : Addr, b ∉ ([] : List Addr) := fun _ => List.not_mem_nil
  have f1 := I1.base.keep f _ made fNew fOut (noEx f)
  have t1 := I1.base.keep t _ dflt tNew tOut (noEx t)
  refine PySem.W.callWith_F0 ⟨_, _, _, _, f1⟩ (wpAny_call ?_)
  obtain ⟨⟨oc, cells, tok, hoc, hdata, hname⟩, _, _⟩ := I1.hok c' _ code
  obtain ⟨next, b1, b2⟩ := binds _ rfl
  have bound : BindsTo s1 (PySem.W.kdv_fn "<lambda>" (X.env.qual ++ "<lambda>") params (.expr body) scope (cloFrom X.env.cells scope.names []) (.ref t) doc pm (.ref c') ctv) ⟨[], []⟩ [(own, u)] := BindsTo.of_defaults rfl t1 rfl b1 b2
  have run : codeAny (model X.prog X.w) (X.A.deeper (envOfC qg sg s.heap.objs.size g cdg)) (.call (.ref f) ⟨[], []⟩) (CR (L2.CX X.prog X.w) (envOfC qg sg s.heap.objs.size g cdg :: X.stack) X.prog X.w H1 s1 Q E) s1 := by
    refine PySem.W.kla_callFunE room.depth f1 rfl L.plain.1 L.plain.2 rfl ⟨c', oc, cells, tok, rfl, hoc, hdata, hname⟩ (bound _ _ _ _ ?_)
    refine wpAny_newFunctionEnv (fun y hy => (L.each y hy).1) (fun y hy => ?_) (fun h₁ ns but => ⟨I1.nolimit.fresh _ but, ?_⟩) L.isFn
    · rw [List.mem_singleton.mp hy]
      exact isOwn
    · have grows : ∀ b o, s1.heap.get? b = some o → h₁.get? b = some o := fun b o e => but.extBut b o (Nat.ne_of_lt (Heap.lt_size e)) (Heap.get?_push_of_some _ e)
      refine PySem.W.kla_codeExpr ?_
      have inside := lamD_enters (E := E) (f := f) (c' := c') (tk := s1.toks + [(own, u)].length) I L I1.env0 room.hd I1.base ns grows
      refine wpAny_mono ((reads _ _ s1 H1 (room.deeper _)).run [] _ _ H1 Q inside told) ?_ (fun _ _ x => x)
      rintro v1 s2 ⟨w1, H2, I2, r2, q2⟩
      exact ⟨w1, H2, I2.os, I2.bare, I2.base, I2.hok, r2, q2⟩
  refine codeAny_mono run ?_
  rintro (err | flow) s2 done
  · exact passes_call tk wish pinsZ σZ H1 s1 err s2 I1 done
  · cases flow with
    | ret v2 => exact I1.after done
    | next => exact done.elim
    | brk => exact done.elim
    | cont => exact done.elim
/-- the table with one more code object of the name q -/
theorem tabs_more {T : List (Addr × Str)} {P c' : Addr} {q : Str} {ps : Array Value} {l1 l2 : Nat} {pos : Pos} (all : Tabs T H) (only : ∀ p ∈ T, p.1 = P → p.2 = q) (at_ : H P = some (.tbl ps)) (ok : TriplesOk ps.toList) (named : ∀ (pos : Pos) (cv : Value), codeAmong pos ps.toList = some cv → ∃ c, cv = .ref c ∧ H c = some (CodeO c q)) (new : H c' = none) :
    ExtN H (upd (upd H P (.tbl (ps ++ #[rawInt pos.line, rawInt pos.col, .ref c']))) c' (CodeO c' q)) ∧ Tabs T (upd (upd H P (.tbl (ps ++ #[rawInt pos.line, rawInt pos.col, .ref c']))) c' (CodeO c' q)) := by
  have ext : ExtN H (upd (upd H P (.tbl (ps ++ #[rawInt pos.line, rawInt pos.col, .ref c']))) c' (CodeO c' q)) := by
    intro b o hb noTab
    have n1 : b ≠ c' := ne_of_none hb new
    have n2 : b ≠ P := by
      rintro rfl
      exact noTab ps (Option.some.inj (hb.symm.trans at_))
    rw [upd_ne n1, upd_ne n2]
    exact hb
  refine ⟨ext, fun p hp => ?_⟩
  by_cases here : p.1 = P
  · have eL : (ps ++ #[rawInt pos.line, rawInt pos.col, .ref c']).toList = ps.toList ++ [rawInt pos.line, rawInt pos.col, .ref c'] := Array.toList_append
    rw [only p hp here, here]
    refine ⟨ps ++ #[rawInt pos.line, rawInt pos.col, .ref c'], ?_, ?_, ?_⟩
    · rw [upd_ne (ne_of_none at_ new), upd_same]
    · rw [eL]
      exact PySem.TriplesOk_snoc _ _ _ _ ok
    · intro pos' cv hcv
      rw [eL] at hcv
      rcases among_app _ ok hcv with old | rfl
      · obtain ⟨c0, e0, h0⟩ := named pos' cv old
        exact ⟨c0, e0, ext _ _ h0 codeO_ne⟩
      · exact ⟨c', rfl, upd_same⟩
  · obtain ⟨ps', h1, h2, h3⟩ := all p hp
    refine ⟨ps', ?_, h2, fun pos' cv hcv => ?_⟩
    · rw [upd_ne (ne_of_none h1 new), upd_ne here]
      exact h1
    · obtain ⟨c0, e0, h0⟩ := h3 pos' cv hcv
      exact ⟨c0, e0, ext _ _ h0 codeO_ne⟩
theorem far {f : Addr} (I : Inv X pins σ H s) (h : s.heap.objs.size ≤ f) : f ∉ frs X.stack := fun z => by
  have on := I.stkSub _ z
  rw [List.mem_cons] at on
  cases on with
  | inl e =>
    have lt := I.lt
    rw [← e] at lt
    exact absurd (Nat.lt_of_lt_of_le lt h) (Nat.lt_irrefl _)
  | inr e => exact I.nofs h e
/-- lambda a=e: .. is made -/
theorem madeD {T : List (Addr × Str)} {c P : Addr} {params : Arguments} {body e : Expr} {scope : Scope} {pos : Pos} {te : TE} {Q : Value → Shared → Prop} (I : Inv X pins σ H s) (TB : TabB X.base X.mg c P) (hcode : X.env.code = .ref c)
    (mem : (P, X.env.qual ++ "<lambda>") ∈ T) (only : ∀ p ∈ T, p.1 = P → p.2 = X.env.qual ++ "<lambda>") (L : LamD X.N X.env.scope scope) (one : params.defaults = [e]) (noKw : params.kw_defaults = []) (told : PE X e te)
    {R : VK} (ask : te σ H R) (then_ : ∀ v H0, R v H0 → Tabs T H0 ∧ ∀ (f c' t : Addr) (u pm ctv doc : Value) (H1 : Hp) (s' : Shared), Inv X pins σ H1 s' → ExtN H0 H1 → Tabs T H1 →
      s'.heap.get? f = some (PySem.W.kdv_obj "<lambda>" (X.env.qual ++ "<lambda>") params (.expr body) scope (cloFrom X.env.cells scope.names []) (.ref t) doc pm c' ctv) → H1 f = none → f ∉ frs X.stack →
      s'.heap.get? t = some (PySem.W.kdv_tup [u]) → H1 t = none → t ∉ frs X.stack → H1 c' = some (CodeO c' (X.env.qual ++ "<lambda>")) → Q (.ref f) s') :
    wpAny (model X.prog X.w) X.A (eval (.Lambda params body scope pos) X.env) Q X.xe s := by
  refine PySem.W.kdv_lam (by rw [one]; rfl) noKw ?_
  rw [one]
  refine PySem.W.kdv_all1 (thn (told.run pins s σ H _ I ask) ?_)
  rintro u s0 ⟨v, H0, I0, _, asked⟩
  obtain ⟨all, hand⟩ := then_ v H0 asked
  refine PySem.W.kdv_all0 ?_
  rw [makeFunction_eq]
  simp only [List.zip_nil_right, List.filterMap_nil, List.isEmpty_nil, List.isEmpty_cons, if_true, pure_bind, Bool.false_eq_true, if_false]
  apply wpAny_bind
  apply wpAny_newTextTuple
  have I2 : Inv X pins σ H0 { s0 with heap := s0.heap.push (PySem.W.kdv_tup [u]) } := I0.kept (t' := s0.toks) (fun b o hb => Heap.get?_push_of_some _ hb)
  have t2 : (s0.heap.push (PySem.W.kdv_tup [u])).get? s0.heap.objs.size = some (PySem.W.kdv_tup [u]) := Heap.get?_push_size _ rfl
  have tFree : H0 s0.heap.objs.size = none := I0.hok.fresh (Nat.le_refl _)
  have tFar : s0.heap.objs.size ∉ frs X.stack := far I0 (Nat.le_refl _)
  obtain ⟨ps, hP, ok, named⟩ := all _ mem
  have atP : (s0.heap.push (PySem.W.kdv_tup [u])).get? P = some { cls := .none, data := .fields ps } := I2.hok P _ hP
  cases found : codeAmong pos ps.toList with
  | none =>
    refine PySem.W.kdv_makeTail (mg := X.mg) (c := c) (P := P) (ps := ps) (closure_ok (L.has I.ok)) I2.ok.glob (I2.mod.glob.keeps I2.bk) hcode (TB.code.keeps I2.bk) atP ok found TB.gP (TB.bm.keeps I2.bk) ?_
    intro c' ctv doc h' tk but ge lt rec_ grown
    obtain ⟨c2, oc, vs, tok, e2, hoc, hdata, hname⟩ := rec_
    cases e2
    have cFree : H0 c' = none := I2.hok.fresh ge
    have big : (s0.heap.push (PySem.W.kdv_tup [u])).objs.size ≤ h'.objs.size := Nat.le_trans ge (Nat.le_of_lt lt)
    have tabs := tabs_more (l1 := 0) (l2 := 0) (pos := pos) all only hP ok named cFree
    have I3 := inv_table (t' := tk) (more := #[rawInt pos.line, rawInt pos.col, .ref c']) (h' := h'.push (PySem.W.kdv_obj "<lambda>" (X.env.qual ++ "<lambda>") params (.expr body) scope (cloFrom X.env.cells scope.names []) (.ref s0.heap.objs.size) doc ((X.mg "__name__").getD .none) c' ctv)) I2 hP
      (fun b o nb hb => Heap.get?_push_of_some _ (but b o nb hb)) (Heap.get?_push_of_some _ grown) ge ⟨oc, vs, tok, Heap.get?_push_of_some _ hoc, hdata, hname⟩
    have tNe : s0.heap.objs.size ≠ P := fun z => by rw [z, hP] at tFree; cases tFree
    have fFree : ∀ {b : Addr}, b ≠ c' → b ≠ P → H0 b = none → (upd (upd H0 P (.tbl (ps ++ #[rawInt pos.line, rawInt pos.col, .ref c']))) c' (CodeO c' (X.env.qual ++ "<lambda>"))) b = none := fun n1 n2 h => by
      rw [upd_ne n1, upd_ne n2]
      exact h
    have tc : s0.heap.objs.size ≠ c' := fun z => by
      have q := Heap.lt_size t2
      rw [z] at q
      exact Nat.lt_irrefl _ (Nat.lt_of_lt_of_le q ge)
    have fP : h'.objs.size ≠ P := fun z => by
      have q := Heap.lt_size atP
      rw [← z] at q
      exact Nat.lt_irrefl _ (Nat.lt_of_lt_of_le q big)
    exact hand _ c' _ u _ ctv doc _ _ I3 tabs.1 tabs.2 (Heap.get?_push_size _ rfl) (fFree (Nat.ne_of_gt lt) fP (I2.hok.fresh big)) (far I2 big) (Heap.get?_push_of_some _ (but _ _ tNe t2)) (fFree tc tNe tFree) tFar upd_same
  | some cv =>
    obtain ⟨c', rfl, hco⟩ := named pos cv found
    refine PySem.W.kdv_makeTailHit (mg := X.mg) (c := c) (P := P) (ps := ps) (closure_ok (L.has I.ok)) I2.ok.glob (I2.mod.glob.keeps I2.bk) hcode (TB.code.keeps I2.bk) atP ok found (TB.bm.keeps I2.bk) ?_
    intro ctv doc h' tk grows big
    have I3 : Inv X pins σ H0 { s0 with heap := h'.push (PySem.W.kdv_obj "<lambda>" (X.env.qual ++ "<lambda>") params (.expr body) scope (cloFrom X.env.cells scope.names []) (.ref s0.heap.objs.size) doc ((X.mg "__name__").getD .none) c' ctv), toks := tk } := I2.kept fun b o hb => Heap.get?_push_of_some _ (grows b o hb)
    exact hand _ c' _ u _ ctv doc H0 _ I3 (ExtN.refl H0) all (Heap.get?_push_size _ rfl) (I2.hok.fresh big) (far I2 big) (Heap.get?_push_of_some _ (grows _ _ t2)) tFree tFar hco
end
def tLamD (T : List (Addr × Str)) (TT : (XK → Hp → VK → Prop) → Hp → VK → Prop) (te : TE) (t : XK → TE) : TE := fun σ H Q => te σ H fun _ H0 => Tabs T H0 ∧ ∀ H1, ExtN H0 H1 → Tabs T H1 → TT (fun E H' Q' => t E σ H' Q') H1 Q
/-- x(lambda a=e: body) -/
theorem pe_lamD {X : Cx} {T : List (Addr × Str)} {TT : (XK → Hp → VK → Prop) → Hp → VK → Prop} {x a own : Str} {g c P : Addr} {k : Nat} {pg : Arguments} {bg : List Stmt} {sg : Scope} {dV kV doc pm cdv ct oc : Value} {an od : Option Addr} {osl : Array (Option Value)} {Ng : List Str}
    {params : Arguments} {body e : Expr} {scope : Scope} {te : TE} {t : XK → TE} {p lpos pos : Pos} (isG : Gl X x) (is : X.mg x = some (.ref g)) (kept : PySem.W.keepIn X.K (.ref g) = true)
    (written : X.K.lookup g = some ⟨oc, od, .func (PySem.W.fnOf x x pg bg sg dV kV doc pm an cdv ct), osl⟩) (hcode : PySem.W.codeIn X.K cdv x = true) (binds : L2.Binds X.K (PySem.W.fnOf x x pg bg sg dV kV doc pm an cdv ct) [a] []) (scG : FnScope Ng [a] sg) (slot : Ng[0]? = some a) (seen : Vis sg a)
    (gives : GivesTo X Ng x sg g cdv bg a (X.env.qual ++ "<lambda>") TT)
    (TB : TabB X.base X.mg c P) (mine : X.env.code = .ref c) (mem : (P, X.env.qual ++ "<lambda>") ∈ T) (only : ∀ p ∈ T, p.1 = P → p.2 = X.env.qual ++ "<lambda>") (room : Room (k + 2) X.A) (L : LamD X.N X.env.scope scope) (one : params.defaults = [e]) (noKw : params.kw_defaults = []) (told : PE X e te)
    (bindL : ∀ (q : Str) (cl : List (Str × Addr)) (dv doc pm cv ctv u : Value), ∃ k, bindArgs (PySem.W.kdv_fn "<lambda>" q params (.expr body) scope cl dv doc pm cv ctv) ⟨[], []⟩ = seqItems? dv >>= k ∧ k (some [u].toArray) = pure [(own, u)]) (isOwn : scope.names.lookup own = some .local)
    (reads : ∀ (A : Around) (outer : List Env) (s : Shared) (H : Hp) (E : XK) (f c' : Addr), Room k (A.deeper (lamEnv X scope s.heap.objs.size f c')) → PE (lamCx X A outer s H E scope f c') body (t E))
    (hd : (a == ("__debug__" : Str)) = false := by decide) (hcd : (a == ("__classdict__" : Str)) = false := by decide) (hdb : (x == ("__debug__" : Str)) = false := by decide) : PE X (.Call (.Name x p) [.Lambda params body scope lpos] [] pos) (tLamD T TT te t) := by
  constructor
  intro pins s σ H Q I ask
  refine wpAny_Call_Name_kw (ld_glob I isG is (PySem.W.callWith_K (h₀ := X.base) I.ok.mod.kin kept ?_ (by rfl) (by rfl)) hdb)
  apply Calls.spliced_cons (x := eval (.Lambda params body scope lpos) X.env) (rest := backTo pos (starEach [] X.env))
  refine madeD I TB mine mem only L one noKw told ask ?_
  rintro v0 H0 ⟨all, rest⟩
  refine ⟨all, fun f c' t0 u pm' ctv doc' H1 s1 I1 ext tabs made fNew fOut dflt tNew tOut code => ?_⟩
  refine Calls.spliced_nil ⟨I1.kIn, wpAny_call ?_⟩
  have run : codeAny (model X.prog X.w) X.A (.call (.ref g) ⟨[.ref f], []⟩) (CR C8.CX0 X.stack X.prog X.w H1 s1 Q C8.E0) s1 := by
    refine run_ofS (N := Ng) (ps := [a]) (us := [.ref f]) (vs := [.ref f]) written hcode scG room I1.env0 (binds s1 [.ref f] I1.kIn rfl) (.cons rfl .nil) rfl fun inner => ?_
    have act := gives f c' s1 H1 Q (fun E H' Q' => t E σ H' Q') (fun W pn xe E p1 p2 tk wish => pe_askD (i := 0) I1 L made fNew fOut dflt tNew tOut
      (fun fd e => by subst e; exact bindL _ _ _ _ _ _ _ u) isOwn tk wish inner (fun A outer s H r => reads A outer s H E f c' r) slot seen hd hcd) code (rest H1 ext tabs)
    obtain ⟨t', walk, ends⟩ := act
    exact ⟨t', walk.nox, ends⟩
  refine codeAny_mono run ?_
  rintro (err | flow) s2 done
  · exact (show False from done).elim
  · cases flow with
    | ret v2 => exact I1.after done
    | next => exact done.elim
    | brk => exact done.elim
    | cont => exact done.elim
end Tm

/-! what the law of cut and contracted webs carries along -/
namespace Tm
open PySem PySem.Spec PyProof.Rows L2 LamX
theorem tabs_same {T : List (Addr × Str)} {H H' : Hp} (t : Tabs T H) (s : Same H H') : Tabs T H' := fun p hp => (t p hp).ext s
theorem tabs_keep {T : List (Addr × Str)} {H H' : Hp} {b : Addr} (t : Tabs T H) (hb : ∃ u, H b = some (.lst u)) (k : Kp b H H') : Tabs T H' := by
  obtain ⟨u, hb⟩ := hb
  intro p hp
  obtain ⟨ps, h1, h2, h3⟩ := t p hp
  refine ⟨ps, k _ _ (ne_of h1 hb (by intro e; cases e)) h1, h2, fun pos cv hc => ?_⟩
  obtain ⟨c, e, hcode⟩ := h3 pos cv hc
  exact ⟨c, e, k _ _ (ne_of hcode hb (by intro e; cases e)) hcode⟩
theorem tabs_first {P : Addr} {q : Str} {H : Hp} (h : H P = some (.tbl #[])) : Tabs [(P, q)] H := by
  intro p hp
  rw [List.mem_singleton.mp hp]
  exact ⟨#[], h, by first | trivial | exact TriplesOk.nil | simp [TriplesOk], fun pos cv hc => by cases hc⟩
def spLawT (K : PySem.W.Frag) (P : Addr) : Sp := fun vs H Q _ => ∃ (a : Addr) (ns : List Int), vs = [.ref a] ∧ SqL K H a (ns.map V.int) ∧ ns.length ≤ 63 ∧ H P = some (.tbl #[]) ∧ ∀ H', Q (.bl true) H'
theorem bag_lst {H : Hp} {b l : Addr} (B : Bag H b l) : ∃ u, H b = some (.lst u) := by
  obtain ⟨_, _, _, _, h, _⟩ := B
  exact ⟨_, h⟩
theorem bag_ext {H H' : Hp} {b l : Addr} (B : Bag H b l) (e : ExtN H H') : Bag H' b l := by
  obtain ⟨xs, i, n, s, h1, h2, rest⟩ := B
  exact ⟨xs, i, n, s, e _ _ h1 (fun ps z => by cases z), e _ _ h2 (fun ps z => by cases z), rest⟩
theorem web_ext {C : Addr} {H H' : Hp} {x : Addr} {ms : List (Int × Int)} {es : List Edg} (w : WebAt C H x ms es) (e : ExtN H H') : WebAt C H' x ms es := by
  obtain ⟨dx, a1, a2, a3, h1, h2, h3, h4, ok⟩ := w
  exact ⟨dx, a1, a2, a3, e _ _ h1 (fun ps z => by cases z), e _ _ h2 (fun ps z => by cases z), e _ _ h3 (fun ps z => by cases z), e _ _ h4 (fun ps z => by cases z), ⟨ok.rise, ok.node, ok.mark, ok.risE, ok.name, fun q hq => e _ _ (ok.pair q hq) (fun ps z => by cases z), ok.less, ok.ends⟩⟩
theorem raw_kp {b : Addr} {H H' : Hp} {t : Addr} {ms : List (Int × Int)} {es : List Edg} (hb : ∃ u, H b = some (.lst u)) (r : RawG H t ms es) (k : Kp b H H') : RawG H' t ms es := by
  obtain ⟨u, hb⟩ := hb
  obtain ⟨dm, de, h1, h2, h3, h4, h5, h6⟩ := r
  have k' : ∀ {p : Addr} {o : HO}, H p = some o → o ≠ .lst u → H' p = some o := fun {p o} hp ne => k p o (ne_of hp hb ne) hp
  exact ⟨dm, de, k' h1 (by intro z; cases z), k' h2 (by intro z; cases z), k' h3 (by intro z; cases z), h4, ⟨h5.1, h5.2.1, h5.2.2.1, fun e he => ⟨k' (h5.2.2.2 e he).1 (by intro z; cases z), (h5.2.2.2 e he).2⟩⟩, h6⟩
theorem web_kp {C b : Addr} {H H' : Hp} {x : Addr} {ms : List (Int × Int)} {es : List Edg} (hb : ∃ u, H b = some (.lst u)) (w : WebAt C H x ms es) (k : Kp b H H') : WebAt C H' x ms es := by
  obtain ⟨u, hb⟩ := hb
  obtain ⟨dx, a1, a2, a3, h1, h2, h3, h4, ok⟩ := w
  have k' : ∀ {p : Addr} {o : HO}, H p = some o → o ≠ .lst u → H' p = some o := fun {p o} hp ne => k p o (ne_of hp hb ne) hp
  exact ⟨dx, a1, a2, a3, k' h1 (by intro z; cases z), k' h2 (by intro z; cases z), k' h3 (by intro z; cases z), k' h4 (by intro z; cases z), ⟨ok.rise, ok.node, ok.mark, ok.risE, ok.name, fun q hq => k' (ok.pair q hq) (by intro z; cases z), ok.less, ok.ends⟩⟩
theorem exc_badE {K : PySem.W.Frag} {CU d : Addr} {H : Hp} {z : List Nat} (xf : XfC K CU) (nc : PySem.W.findIn K (.ref CU) "code" = some none) (nn : PySem.W.findIn K (.ref CU) "name" = some none) (hd : H d = some (.xd (badE z))) : ExcIs K (.ref CU) (some d) H "unknownedge" (.str (txt z)) := by
  have ea : attrOf "unknownedge" = some "name" := by decide +kernel
  refine ⟨CU, d, _, rfl, xf, nc, rfl, hd, ?_, ?_⟩
  · have h1 : (("code" : Str) == "name") = false := by decide +kernel
    have h2 : (("code" : Str) == "code") = true := by decide +kernel
    simp only [badE, List.lookup_cons, h1, h2]
  · rw [ea]
    have h3 : (("name" : Str) == "name") = true := by decide +kernel
    exact ⟨nn, by simp only [badE, List.lookup_cons, h3]⟩
theorem without_perm {c : Nat} {ts us : List (Nat × Int × Int)} (p : ts.Perm us) : (without c ts).Perm (without c us) := p.filter _
theorem cms_perm {l g v : Int} {ms ms' : List (Int × Int)} (p : ms.Perm ms') : (cms l g v ms).Perm (cms l g v ms') := (p.filter _).map _
/-- the edge of the web that is this edge of the dicts -/
theorem twin {es es' : List Edg} (p : (es'.map tri).Perm (es.map tri)) {e : Edg} (he : e ∈ es) : ∃ e' ∈ es', tri e' = tri e := by
  have m : tri e ∈ es'.map tri := p.mem_iff.mpr (List.mem_map.mpr ⟨e, he, rfl⟩)
  obtain ⟨e', h', eq⟩ := List.mem_map.mp m
  exact ⟨e', h', eq⟩
theorem one_letter {es : List Edg} (nd : (es.map (·.letter)).Nodup) {e e' : Edg} (he : e ∈ es) (he' : e' ∈ es) (eq : e.letter = e'.letter) : e = e' := by
  obtain ⟨i, hi, rfl⟩ := List.mem_iff_getElem.mp he
  obtain ⟨j, hj, rfl⟩ := List.mem_iff_getElem.mp he'
  have key : ∀ {i j : Nat} (hi : i < es.length) (hj : j < es.length), i < j → es[i].letter ≠ es[j].letter := fun {i j} hi hj lt => by
    have q := List.pairwise_iff_getElem.mp nd i j (by rw [List.length_map]; exact hi) (by rw [List.length_map]; exact hj) lt
    rw [List.getElem_map, List.getElem_map] at q
    exact q
  rcases Nat.lt_trichotomy i j with lt | rfl | gt
  · exact absurd eq (key hi hj lt)
  · rfl
  · exact absurd eq.symm (key hj hi gt)
theorem tri_lo {e e' : Edg} (h : tri e = tri e') : e.letter = e'.letter ∧ e.lo = e'.lo ∧ e.hi = e'.hi := by
  have q1 : (tri e).1 = (tri e').1 := by rw [h]
  have q2 : (tri e).2.1 = (tri e').2.1 := by rw [h]
  have q3 : (tri e).2.2 = (tri e').2.2 := by rw [h]
  exact ⟨q1, q2, q3⟩
def dUnk (z : List Nat) : PyData := .tuple [.str (Str.ofString "unknownedge"), .str (txt z)]
theorem code_unk : PyData.strOk (Str.ofString "unknownedge") = true := by decide +kernel
theorem shaped_unk {z : List Nat} (h : PyData.strOk (txt z) = true) : SeqAt.shaped (.list [dUnk z, dUnk z]) = true := by
  simp [SeqAt.shaped, dUnk, PyData.canLay0, PyData.canLayAll0, PyData.depth, PyData.depthAll, h, code_unk]
/-- a text that is no edge -/
def Stranger (es : List Edg) (z : List Nat) : Prop := (∀ e ∈ es, [e.letter] ≠ z) ∧ PyData.strOk (txt z) = true
theorem alpha_lo : ∀ c ∈ alpha, c < 1114112 := by decide
theorem strOk_one {c : Nat} (h : c < 1114112) : PyData.strOk (txt [c]) = true := by
  show ((txt [c]).cps.all fun c => decide (c < 0x110000)) = true
  rw [← Array.all_toList, txt_cps]
  simpa using h
theorem strangers {es : List Edg} (name : ∀ e ∈ es, e.letter ∈ alpha) {cs : List Nat} (hcs : ∀ c ∈ cs, c ∈ alpha ∧ ∀ e ∈ es, e.letter ≠ c) {x : V} (h : x ∈ [V.str (Str.ofString "y"), .str (Str.ofString ""), .str (Str.ofString "ab")] ++ cs.map sig) : ∃ z, x = .str (txt z) ∧ Stranger es z := by
  rcases List.mem_append.mp h with h | h
  · simp only [List.mem_cons, List.not_mem_nil, or_false] at h
    rcases h with rfl | rfl | rfl
    · refine ⟨[121], congrArg V.str (by decide +kernel), ⟨fun e he eq => ?_, by decide +kernel⟩⟩
      have q : e.letter = 121 := List.head_eq_of_cons_eq eq
      have m := name e he
      rw [q] at m
      exact absurd m (by decide)
    · exact ⟨[], congrArg V.str (by decide +kernel), ⟨fun e he eq => (by cases eq), by decide +kernel⟩⟩
    · exact ⟨[97, 98], congrArg V.str (by decide +kernel), ⟨fun e he eq => absurd (congrArg List.length eq) (by simp), by decide +kernel⟩⟩
  · obtain ⟨c, hc, rfl⟩ := List.mem_map.mp h
    exact ⟨[c], rfl, ⟨fun e he eq => (hcs c hc).2 e he (List.head_eq_of_cons_eq eq), strOk_one (alpha_lo c (hcs c hc).1)⟩⟩
end Tm

/-! A web whose dicts are new. -/
namespace Tm
open PySem PySem.Spec PyProof.Rows L2
def WebNew (C : Addr) (H0 H : Hp) (x : Addr) (ms : List (Int × Int)) (es : List Edg) : Prop :=
  ∃ dx a1 a2 a3 : Addr, H x = some (.ins C dx (webF a1 a2 a3)) ∧ H a1 = some (.dK (marksK ms)) ∧ H a2 = some (.dK (endsK es)) ∧ H a3 = some (.dK (starsK ms es)) ∧ RawOk H ms es ∧ H0 a1 = none ∧ H0 a2 = none ∧ H0 a3 = none
def spWInitN (C : Addr) : Sp := fun vs H Q _ => ∃ (x dx dm de : Addr) (ms : List (Int × Int)) (es : List Edg), vs = [.ref x, .ref dm, .ref de] ∧ H x = some (.ins C dx []) ∧ H dm = some (.dK (marksK ms)) ∧ H de = some (.dK (endsK es)) ∧
  MarksOk ms ∧ EdgesOk H ms es ∧ ∀ H' ms' es', Kp x H H' → WebNew C H H' x ms' es' → Made ms ms' es es' → Q .non H'
end Tm

/-! what the law of webs and their parts carries along -/
namespace Tm
open PySem PySem.Spec PyProof.Rows L2 LamX
theorem exc_badN {K : PySem.W.Frag} {CU d : Addr} {H : Hp} {n : Int} (xf : XfC K CU) (nc : PySem.W.findIn K (.ref CU) "code" = some none) (nn : PySem.W.findIn K (.ref CU) "node" = some none) (hd : H d = some (.xd (badN n))) : ExcIs K (.ref CU) (some d) H "unknownnode" (.int n) := by
  have ea : attrOf "unknownnode" = some "node" := by decide +kernel
  refine ⟨CU, d, _, rfl, xf, nc, rfl, hd, ?_, ?_⟩
  · have h1 : (("code" : Str) == "node") = false := by decide +kernel
    have h2 : (("code" : Str) == "code") = true := by decide +kernel
    simp only [badN, List.lookup_cons, h1, h2]
  · rw [ea]
    have h3 : (("node" : Str) == "node") = true := by decide +kernel
    exact ⟨nn, by simp only [badN, List.lookup_cons, h3]⟩
def dUnkN (n : Int) : PyData := .tuple [.str (Str.ofString "unknownnode"), .int n]
theorem code_unkN : PyData.strOk (Str.ofString "unknownnode") = true := by decide +kernel
theorem shaped_unkN (n : Int) : SeqAt.shaped (.list [dUnkN n, dUnkN n]) = true := by
  simp [SeqAt.shaped, dUnkN, PyData.canLay0, PyData.canLayAll0, PyData.depth, PyData.depthAll, code_unkN]
theorem shaped_unk1 {z : List Nat} (h : PyData.strOk (txt z) = true) : SeqAt.shaped (dUnk z) = true := by
  simp [SeqAt.shaped, dUnk, PyData.canLay0, PyData.canLayAll0, PyData.depth, PyData.depthAll, h, code_unk]
theorem strangersZ {es : List Edg} (name : ∀ e ∈ es, e.letter ∈ alpha) {cs : List Nat} (hcs : ∀ c ∈ cs, c ∈ alpha ∧ ∀ e ∈ es, e.letter ≠ c) {x : V} (h : x ∈ [V.str (Str.ofString "z"), .str (Str.ofString ""), .str (Str.ofString "ab")] ++ cs.map sig) : ∃ z, x = .str (txt z) ∧ Stranger es z := by
  rcases List.mem_append.mp h with h | h
  · simp only [List.mem_cons, List.not_mem_nil, or_false] at h
    rcases h with rfl | rfl | rfl
    · refine ⟨[122], congrArg V.str (by decide +kernel), ⟨fun e he eq => ?_, by decide +kernel⟩⟩
      have q : e.letter = 122 := List.head_eq_of_cons_eq eq
      have m := name e he
      rw [q] at m
      exact absurd m (by decide)
    · exact ⟨[], congrArg V.str (by decide +kernel), ⟨fun e he eq => (by cases eq), by decide +kernel⟩⟩
    · exact ⟨[97, 98], congrArg V.str (by decide +kernel), ⟨fun e he eq => absurd (congrArg List.length eq) (by simp), by decide +kernel⟩⟩
  · obtain ⟨c, hc, rfl⟩ := List.mem_map.mp h
    exact ⟨[c], rfl, ⟨fun e he eq => (hcs c hc).2 e he (List.head_eq_of_cons_eq eq), strOk_one (alpha_lo c (hcs c hc).1)⟩⟩
theorem fars {ms : List (Int × Int)} (node : ∀ m ∈ ms, 0 ≤ m.1 ∧ m.1 < 12) {ns : List Int} (hns : ∀ n ∈ ns, n ∉ ms.map (·.1)) {x : V} (h : x ∈ [V.int (-1), .int 12, .int (10 ^ 20)] ++ ns.map V.int) : ∃ n, x = .int n ∧ n ∉ ms.map (·.1) := by
  have out : ∀ n : Int, (n < 0 ∨ 12 ≤ n) → n ∉ ms.map (·.1) := fun n c mem => by
    obtain ⟨q, hq, rfl⟩ := List.mem_map.mp mem
    have := node q hq
    omega
  rcases List.mem_append.mp h with h | h
  · simp only [List.mem_cons, List.not_mem_nil, or_false] at h
    rcases h with rfl | rfl | rfl
    · exact ⟨-1, rfl, out _ (.inl (by decide))⟩
    · exact ⟨12, rfl, out _ (.inr (by decide))⟩
    · exact ⟨10 ^ 20, rfl, out _ (.inr (by decide))⟩
  · obtain ⟨n, hn, rfl⟩ := List.mem_map.mp h
    exact ⟨n, rfl, hns n hn⟩
/-- a drawn web whose dicts are named -/
def RawD (H : Hp) (t dm de : Addr) (ms : List (Int × Int)) (es : List Edg) : Prop := H t = some (.tup [.ref dm, .ref de]) ∧ H dm = some (.dK (marksK ms)) ∧ H de = some (.dK (endsK es)) ∧ MarksOk ms ∧ EdgesOk H ms es ∧ ∀ e ∈ es, e.lo < e.hi
theorem RawD.gen {H : Hp} {t dm de : Addr} {ms : List (Int × Int)} {es : List Edg} (r : RawD H t dm de ms es) : RawG H t ms es := ⟨dm, de, r⟩
/-- what keeps dicts and tuples keeps a drawn web -/
theorem RawD.keep {H H' : Hp} {t dm de : Addr} {ms : List (Int × Int)} {es : List Edg} (r : RawD H t dm de ms es) (k1 : H' dm = some (.dK (marksK ms))) (k2 : H' de = some (.dK (endsK es))) (k : ∀ p xs, H p = some (.tup xs) → H' p = some (.tup xs)) : RawD H' t dm de ms es := by
  obtain ⟨h1, h2, h3, h4, h5, h6⟩ := r
  exact ⟨k _ _ h1, k1, k2, h4, ⟨h5.1, h5.2.1, h5.2.2.1, fun e he => ⟨k _ _ (h5.2.2.2 e he).1, (h5.2.2.2 e he).2⟩⟩, h6⟩
theorem RawD.same {H H' : Hp} {t dm de : Addr} {ms : List (Int × Int)} {es : List Edg} (r : RawD H t dm de ms es) (s : Same H H') : RawD H' t dm de ms es := r.keep (s _ _ r.2.1) (s _ _ r.2.2.1) fun _ _ h => s _ _ h
theorem RawD.ext {H H' : Hp} {t dm de : Addr} {ms : List (Int × Int)} {es : List Edg} (r : RawD H t dm de ms es) (e : ExtN H H') : RawD H' t dm de ms es := r.keep (e _ _ r.2.1 (fun ps z => by cases z)) (e _ _ r.2.2.1 (fun ps z => by cases z)) fun _ _ h => e _ _ h (fun ps z => by cases z)
theorem RawD.kp {b : Addr} {H H' : Hp} {t dm de : Addr} {ms : List (Int × Int)} {es : List Edg} (hb : ∃ u, H b = some (.lst u)) (r : RawD H t dm de ms es) (k : Kp b H H') : RawD H' t dm de ms es := by
  obtain ⟨u, hb⟩ := hb
  exact r.keep (k _ _ (ne_of r.2.1 hb (by intro z; cases z)) r.2.1) (k _ _ (ne_of r.2.2.1 hb (by intro z; cases z)) r.2.2.1) fun _ _ h => k _ _ (ne_of h hb (by intro z; cases z)) h
theorem tup_put {H : Hp} {d p : Addr} {kv : List (Key × V)} {o : HO} {xs : List V} (hd : H d = some (.dK kv)) (h : H p = some (.tup xs)) : (upd H d o) p = some (.tup xs) := by
  rw [upd_ne (ne_of h hd (by intro z; cases z))]
  exact h
theorem RawD.put {H : Hp} {t dm de d : Addr} {ms : List (Int × Int)} {es : List Edg} {kv : List (Key × V)} {o : HO} (r : RawD H t dm de ms es) (hd : H d = some (.dK kv)) (n1 : dm ≠ d) (n2 : de ≠ d) : RawD (upd H d o) t dm de ms es :=
  r.keep (by rw [upd_ne n1]; exact r.2.1) (by rw [upd_ne n2]; exact r.2.2.1) fun _ _ h => tup_put hd h
theorem bag_put {H : Hp} {b l d : Addr} {kv : List (Key × V)} {o : HO} (B : Bag H b l) (hd : H d = some (.dK kv)) : Bag (upd H d o) b l := by
  obtain ⟨xs, i, n, s, h1, h2, rest⟩ := B
  exact ⟨xs, i, n, s, by rw [upd_ne (ne_of h1 hd (by intro z; cases z))]; exact h1, by rw [upd_ne (ne_of h2 hd (by intro z; cases z))]; exact h2, rest⟩
theorem tabs_put {T : List (Addr × Str)} {H : Hp} {d : Addr} {kv : List (Key × V)} {o : HO} (t : Tabs T H) (hd : H d = some (.dK kv)) : Tabs T (upd H d o) := by
  intro p hp
  obtain ⟨ps, h1, h2, h3⟩ := t p hp
  refine ⟨ps, by rw [upd_ne (ne_of h1 hd (by intro e; cases e))]; exact h1, h2, fun pos cv hc => ?_⟩
  obtain ⟨c, e, hcode⟩ := h3 pos cv hc
  exact ⟨c, e, by rw [upd_ne (ne_of hcode hd (by intro e; cases e))]; exact hcode⟩
theorem web_put {C x d : Addr} {H0 H : Hp} {ms : List (Int × Int)} {es : List Edg} {kv : List (Key × V)} {o : HO} (w : WebNew C H0 H x ms es) (h0 : H0 d ≠ none) (hd : H d = some (.dK kv)) : WebNew C H0 (upd H d o) x ms es := by
  obtain ⟨dx, a1, a2, a3, hx, h1, h2, h3, ok, f1, f2, f3⟩ := w
  have n1 : a1 ≠ d := fun z => h0 (z ▸ f1)
  have n2 : a2 ≠ d := fun z => h0 (z ▸ f2)
  have n3 : a3 ≠ d := fun z => h0 (z ▸ f3)
  exact ⟨dx, a1, a2, a3, by rw [upd_ne (ne_of hx hd (by intro z; cases z))]; exact hx, by rw [upd_ne n1]; exact h1, by rw [upd_ne n2]; exact h2, by rw [upd_ne n3]; exact h3, ⟨ok.rise, ok.node, ok.mark, ok.risE, ok.name, fun q hq => tup_put hd (ok.pair q hq), ok.less, ok.ends⟩, f1, f2, f3⟩
theorem WebNew.at {C x : Addr} {H0 H : Hp} {ms : List (Int × Int)} {es : List Edg} (w : WebNew C H0 H x ms es) : WebAt C H x ms es := by
  obtain ⟨dx, a1, a2, a3, hx, h1, h2, h3, ok, _⟩ := w
  exact ⟨dx, a1, a2, a3, hx, h1, h2, h3, ok⟩
/-! ### pairs that are turned or not -/
def tri2 (e : Edg) : Nat × Int × Int := (e.letter, min e.lo e.hi, max e.lo e.hi)
theorem tri2_letters {es2 es1 : List Edg} (em : es2.map tri2 = es1.map tri) : es2.map (·.letter) = es1.map (·.letter) := by
  have q : (es2.map tri2).map (·.1) = (es1.map tri).map (·.1) := by rw [em]
  rw [List.map_map, List.map_map] at q
  exact q
theorem turned_step {es1 es2 : List Edg} {j : Nat} (hj : j < es1.length) (em : es2.map tri2 = (es1.take j).map tri) (less : es1[j].lo < es1[j].hi) (nd : (es1.map (·.letter)).Nodup) {e : Edg} (hl : e.letter = es1[j].letter)
    (c : (e.lo = es1[j].lo ∧ e.hi = es1[j].hi) ∨ (e.lo = es1[j].hi ∧ e.hi = es1[j].lo)) : e.letter ∉ es2.map (·.letter) ∧ (es2 ++ [e]).map tri2 = (es1.take (j + 1)).map tri := by
  constructor
  · rw [tri2_letters em, hl]
    have sub : ((es1.take (j + 1)).map (·.letter)).Nodup := ((List.take_sublist (j + 1) es1).map _).nodup nd
    rw [List.take_succ_eq_append_getElem hj, List.map_append, List.nodup_append] at sub
    intro m
    exact sub.2.2 _ m _ (List.mem_singleton.mpr rfl) rfl
  · rw [List.take_succ_eq_append_getElem hj, List.map_append, List.map_append, em]
    congr 1
    show [tri2 e] = [tri es1[j]]
    congr 1
    unfold tri2 tri
    rw [hl]
    rcases c with ⟨c1, c2⟩ | ⟨c1, c2⟩
    · rw [c1, c2, Int.min_eq_left (by omega), Int.max_eq_right (by omega)]
    · rw [c1, c2, Int.min_eq_right (by omega), Int.max_eq_left (by omega)]
theorem turned_ok {H : Hp} {ms : List (Int × Int)} {es es1 es2 : List Edg} (p : es1.Perm es) (ok : EdgesOk H ms es) (less : ∀ e ∈ es, e.lo < e.hi) (em : es2.map tri2 = es1.map tri) (pr : ∀ e ∈ es2, H e.pair = some (.tup [.int e.lo, .int e.hi])) : EdgesOk H ms es2 := by
  obtain ⟨nd, few, name, pair⟩ := ok
  have ls := tri2_letters em
  have len : es2.length = es.length := by
    have q := congrArg List.length em
    rw [List.length_map, List.length_map] at q
    rw [q]
    exact p.length_eq
  have back : ∀ e ∈ es2, ∃ e0 ∈ es, e0.letter = e.letter ∧ e0.lo = min e.lo e.hi ∧ e0.hi = max e.lo e.hi := fun e he => by
    have m : tri2 e ∈ es1.map tri := em ▸ List.mem_map.mpr ⟨e, he, rfl⟩
    obtain ⟨e0, h0, q⟩ := List.mem_map.mp m
    exact ⟨e0, p.mem_iff.mp h0, congrArg Prod.fst q, congrArg (fun z => z.2.1) q, congrArg (fun z => z.2.2) q⟩
  refine ⟨?_, by omega, fun e he => ?_, fun e he => ⟨pr e he, ?_, ?_, ?_⟩⟩
  · rw [ls]
    exact (p.map _).nodup_iff.mpr nd
  · obtain ⟨e0, h0, q, _⟩ := back e he
    rw [← q]
    exact name e0 h0
  · obtain ⟨e0, h0, _, q1, q2⟩ := back e he
    have := less e0 h0
    omega
  all_goals
    obtain ⟨e0, h0, _, q1, q2⟩ := back e he
    obtain ⟨_, _, m1, m2⟩ := pair e0 h0
    rcases Int.le_total e.lo e.hi with c | c
    · rw [Int.min_eq_left c] at q1
      rw [Int.max_eq_right c] at q2
      first | exact q1 ▸ m1 | exact q2 ▸ m2
    · rw [Int.min_eq_right c] at q1
      rw [Int.max_eq_left c] at q2
      first | exact q1 ▸ m1 | exact q2 ▸ m2
theorem star_tri (es : List Edg) (n : Int) : star es n = ((es.map tri).filter fun t => decide (t.2.1 = n ∨ t.2.2 = n)).map (·.1) := by
  unfold star
  rw [List.filter_map, List.map_map]
  rfl
theorem tri_order {es es' : List Edg} (p : (es.map tri).Perm (es'.map tri)) (r : (es.map (·.letter)).Pairwise (· < ·)) (r' : (es'.map (·.letter)).Pairwise (· < ·)) : es.map tri = es'.map tri := by
  have q : ∀ l : List Edg, (l.map (·.letter)).Pairwise (· < ·) → (l.map tri).Pairwise (fun a b : Nat × Int × Int => a.1 < b.1) := fun l h => List.pairwise_map.mpr (List.pairwise_map.mp h)
  exact List.Perm.eq_of_pairwise (le := fun a b : Nat × Int × Int => a.1 < b.1) (fun a b _ _ x y => absurd (Nat.lt_trans x y) (Nat.lt_irrefl _)) (q _ r) (q _ r') p
theorem star_same {es es' : List Edg} (p : (es.map tri).Perm (es'.map tri)) (r : (es.map (·.letter)).Pairwise (· < ·)) (r' : (es'.map (·.letter)).Pairwise (· < ·)) (n : Int) : star es n = star es' n := by
  rw [star_tri, star_tri, tri_order p r r']
theorem sum_perm {l l' : List Int} (p : l.Perm l') : l.sum = l'.sum := by
  induction p with
  | nil => rfl
  | cons x _ ih => rw [List.sum_cons, List.sum_cons, ih]
  | swap x y l => rw [List.sum_cons, List.sum_cons, List.sum_cons, List.sum_cons]; omega
  | trans _ _ h1 h2 => exact h1.trans h2
theorem odd_perm {ms ms' : List (Int × Int)} (p : ms'.Perm ms) : odd ms' = odd ms := by
  unfold odd
  rw [sum_perm (p.map _)]
theorem eqv_texts {H : Hp} {p q : Addr} {zs : List V} {n : Nat} (txts : ∀ v ∈ zs, ∃ z : List Nat, v = .str (txt z)) (hp : H p = some (.lst zs)) (hq : H q = some (.lst zs)) (few : zs.length ≤ 10000) : Eqv H (n + 1) (.ref p) (.ref q) :=
  .lst hp hq rfl few fun i x y hx hy => by
    have e : x = y := Option.some.inj (hx.symm.trans hy)
    subst e
    obtain ⟨z, rfl⟩ := txts x (List.mem_of_getElem? hx)
    exact .str _ _
end Tm

/-! what the law of invalid webs carries along -/
namespace Tm
open PySem PySem.Spec PyProof.Rows L2 LamX
/-- the two dicts that are changed and given -/
structure Two (H : Hp) (dm de : Addr) (ms : List (Int × Int)) (ns : List Nam) : Prop where
  m : H dm = some (.dK (marksK ms))
  e : H de = some (.dK (namsK ns))
  off : dm ≠ de
  nd : (ms.map (·.1)).Nodup
  few : ms.length < 64
  ok : NamsOk H ns
  str : ∀ x ∈ ns, PyData.strOk (txt x.name) = true
theorem NamsOk.keep {H H' : Hp} {ns : List Nam} (h : NamsOk H ns) (k : ∀ p xs, H p = some (.tup xs) → H' p = some (.tup xs)) : NamsOk H' ns := ⟨h.nd, h.few, h.short, fun e he => k _ _ (h.pair e he)⟩
section
variable {H H' : Hp} {dm de : Addr} {ms : List (Int × Int)} {ns : List Nam}
theorem Two.keep (t : Two H dm de ms ns) (k1 : H' dm = some (.dK (marksK ms))) (k2 : H' de = some (.dK (namsK ns))) (k : ∀ p xs, H p = some (.tup xs) → H' p = some (.tup xs)) : Two H' dm de ms ns := ⟨k1, k2, t.off, t.nd, t.few, t.ok.keep k, t.str⟩
theorem Two.same (t : Two H dm de ms ns) (s : Same H H') : Two H' dm de ms ns := t.keep (s _ _ t.m) (s _ _ t.e) fun _ _ h => s _ _ h
theorem Two.ext (t : Two H dm de ms ns) (e : ExtN H H') : Two H' dm de ms ns := t.keep (e _ _ t.m (fun ps z => by cases z)) (e _ _ t.e (fun ps z => by cases z)) fun _ _ h => e _ _ h (fun ps z => by cases z)
theorem Two.kp {b : Addr} (hb : ∃ u, H b = some (.lst u)) (t : Two H dm de ms ns) (k : Kp b H H') : Two H' dm de ms ns := by
  obtain ⟨u, hb⟩ := hb
  exact t.keep (k _ _ (ne_of t.m hb (by intro z; cases z)) t.m) (k _ _ (ne_of t.e hb (by intro z; cases z)) t.e) fun _ _ h => k _ _ (ne_of h hb (by intro z; cases z)) h
theorem Two.putM (t : Two H dm de ms ns) (n v : Int) (few : ms.length + 1 < 64) : Two (upd H dm (.dK (marksK (putM ms n v)))) dm de (putM ms n v) ns :=
  ⟨upd_same, by rw [upd_ne t.off.symm]; exact t.e, t.off, putM_nd t.nd, Nat.lt_of_le_of_lt (putM_len ms n v) few, t.ok.keep fun p xs h => tup_put t.m h, t.str⟩
theorem Two.putN (t : Two H dm de ms ns) (x : Nam) (few : ns.length + 1 < 64) (short : x.name.length ≤ 1000) (str : PyData.strOk (txt x.name) = true) (pair : H x.pair = some (.tup [.int x.lo, .int x.hi])) : Two (upd H de (.dK (namsK (putN ns x)))) dm de ms (putN ns x) :=
  ⟨by rw [upd_ne t.off]; exact t.m, upd_same, t.off, t.nd, t.few, (t.ok.keep fun p xs h => tup_put t.e h).put few short (tup_put t.e pair), fun y hy => (putN_mem hy).elim (fun z => z ▸ str) (t.str y)⟩
end
/-! ### what is drawn -/
theorem ints_or {ks : List Int} {zs : List V} (hz : ∀ v ∈ zs, ∃ n : Int, v = .int n) {x : V} (h : x ∈ ks.map V.int ++ zs) : ∃ n : Int, x = .int n := by
  rcases List.mem_append.mp h with h | h
  · obtain ⟨k, _, rfl⟩ := List.mem_map.mp h
    exact ⟨k, rfl⟩
  · exact hz x h
structure NameOk (z : List Nat) : Prop where
  short : z.length ≤ 1000
  str : PyData.strOk (txt z) = true
def oddNames : List V := [.str (Str.ofString "y"), .str (Str.ofString "z"), .str (Str.ofString ""), .str (Str.ofString "ab"), .str (Str.ofString "A"), .str (Str.ofString "-"), .str (Str.ofString "a")]
theorem odd_name {x : V} (h : x ∈ oddNames) : ∃ z, x = .str (txt z) ∧ NameOk z := by
  simp only [oddNames, List.mem_cons, List.not_mem_nil, or_false] at h
  rcases h with rfl | rfl | rfl | rfl | rfl | rfl | rfl
  · exact ⟨[121], congrArg V.str (by decide +kernel), by decide, by decide +kernel⟩
  · exact ⟨[122], congrArg V.str (by decide +kernel), by decide, by decide +kernel⟩
  · exact ⟨[], congrArg V.str (by decide +kernel), by decide, by decide +kernel⟩
  · exact ⟨[97, 98], congrArg V.str (by decide +kernel), by decide, by decide +kernel⟩
  · exact ⟨[65], congrArg V.str (by decide +kernel), by decide, by decide +kernel⟩
  · exact ⟨[45], congrArg V.str (by decide +kernel), by decide, by decide +kernel⟩
  · exact ⟨[97], congrArg V.str (by decide +kernel), by decide, by decide +kernel⟩
theorem some_name {H : Hp} {dm de : Addr} {ms : List (Int × Int)} {ns : List Nam} (t : Two H dm de ms ns) {x : V} (h : x ∈ ((upN ns).map fun e => txt e.name).map V.str ++ [.str (Str.ofString "q")]) : ∃ z, x = .str (txt z) ∧ NameOk z := by
  rcases List.mem_append.mp h with h | h
  · obtain ⟨y, hy, rfl⟩ := List.mem_map.mp h
    obtain ⟨e, he, rfl⟩ := List.mem_map.mp hy
    have m := (upN_perm ns).mem_iff.mp he
    exact ⟨e.name, rfl, t.ok.short e m, t.str e m⟩
  · rw [List.mem_singleton.mp h]
    exact ⟨[113], congrArg V.str (by decide +kernel), by decide, by decide +kernel⟩
theorem nams_str {es : List Edg} (name : ∀ e ∈ es, e.letter ∈ alpha) : ∀ x ∈ es.map namOf, PyData.strOk (txt x.name) = true := fun x hx => by
  obtain ⟨e, he, rfl⟩ := List.mem_map.mp hx
  exact strOk_one (alpha_lo _ (name e he))
/-! ### the errors as they are told -/
theorem exc_node {K : PySem.W.Frag} {CU d : Addr} {H : Hp} {n : Int} {c : Str} (ea : attrOf c = some "node") (xf : XfC K CU) (nc : PySem.W.findIn K (.ref CU) "code" = some none) (nn : PySem.W.findIn K (.ref CU) "node" = some none) (hd : H d = some (.xd [("node", .int n), ("code", .str c)])) : ExcIs K (.ref CU) (some d) H c (.int n) := by
  refine ⟨CU, d, _, rfl, xf, nc, rfl, hd, ?_, ?_⟩
  · have h1 : (("code" : Str) == "node") = false := by decide +kernel
    have h2 : (("code" : Str) == "code") = true := by decide +kernel
    simp only [List.lookup_cons, h1, h2]
  · rw [ea]
    have h3 : (("node" : Str) == "node") = true := by decide +kernel
    exact ⟨nn, by simp only [List.lookup_cons, h3]⟩
theorem exc_name {K : PySem.W.Frag} {CU d : Addr} {H : Hp} {z : Str} {c : Str} (ea : attrOf c = some "name") (xf : XfC K CU) (nc : PySem.W.findIn K (.ref CU) "code" = some none) (nn : PySem.W.findIn K (.ref CU) "name" = some none) (hd : H d = some (.xd [("name", .str z), ("code", .str c)])) : ExcIs K (.ref CU) (some d) H c (.str z) := by
  refine ⟨CU, d, _, rfl, xf, nc, rfl, hd, ?_, ?_⟩
  · have h1 : (("code" : Str) == "name") = false := by decide +kernel
    have h2 : (("code" : Str) == "code") = true := by decide +kernel
    simp only [List.lookup_cons, h1, h2]
  · rw [ea]
    have h3 : (("name" : Str) == "name") = true := by decide +kernel
    exact ⟨nn, by simp only [List.lookup_cons, h3]⟩
theorem at_invalidnode : attrOf "invalidnode" = some "node" := by decide +kernel
theorem at_invalidmark : attrOf "invalidmark" = some "node" := by decide +kernel
theorem at_invalidname : attrOf "invalidname" = some "name" := by decide +kernel
theorem at_invalidedge : attrOf "invalidedge" = some "name" := by decide +kernel
/-! ### the answers beside one another -/
def fdata : Flt → PyData
  | .node n => .tuple [.str "invalidnode", .int n]
  | .mark n => .tuple [.str "invalidmark", .int n]
  | .name z => .tuple [.str "invalidname", .str (txt z)]
  | .edge z => .tuple [.str "invalidedge", .str (txt z)]
  | .ok => .tuple [.str (Str.ofString ""), .none]
theorem fault_str {ms : List (Int × Int)} {ns : List Nam} (str : ∀ x ∈ ns, PyData.strOk (txt x.name) = true) : ∀ z, (fault ms ns = .name z ∨ fault ms ns = .edge z) → PyData.strOk (txt z) = true := by
  intro z h
  rcases faultM_kind ms with ⟨n, e⟩ | ⟨n, e⟩ | e
  · rw [fault_node e] at h; rcases h with h | h <;> cases h
  · rw [fault_mark e] at h; rcases h with h | h <;> cases h
  rw [fault_rest e] at h
  unfold faultN at h
  cases e1 : (upN ns).find? (fun e => !okName e.name) with
  | some m =>
    rw [e1] at h
    have mem := (upN_perm ns).mem_iff.mp (List.mem_of_find?_eq_some e1)
    rcases h with h | h
    · injection h with h; rw [← h]; exact str m mem
    · cases h
  | none =>
  rw [e1] at h
  cases e2 : (upN ns).find? (fun e => !okJoin ms e.lo e.hi) with
  | some m =>
    rw [e2] at h
    have mem := (upN_perm ns).mem_iff.mp (List.mem_of_find?_eq_some e2)
    rcases h with h | h
    · cases h
    · injection h with h; rw [← h]; exact str m mem
  | none => rw [e2] at h; rcases h with h | h <;> cases h
theorem fdata_shaped {f : Flt} (h : ∀ z, (f = .name z ∨ f = .edge z) → PyData.strOk (txt z) = true) : SeqAt.shaped (fdata f) = true := by
  have c1 : PyData.strOk "invalidnode" = true := by decide +kernel
  have c2 : PyData.strOk "invalidmark" = true := by decide +kernel
  have c3 : PyData.strOk "invalidname" = true := by decide +kernel
  have c4 : PyData.strOk "invalidedge" = true := by decide +kernel
  cases f with
  | node n => simp [SeqAt.shaped, fdata, PyData.canLay0, PyData.canLayAll0, PyData.depth, PyData.depthAll, c1]
  | mark n => simp [SeqAt.shaped, fdata, PyData.canLay0, PyData.canLayAll0, PyData.depth, PyData.depthAll, c2]
  | name z => simp [SeqAt.shaped, fdata, PyData.canLay0, PyData.canLayAll0, PyData.depth, PyData.depthAll, c3, h z (.inl rfl)]
  | edge z => simp [SeqAt.shaped, fdata, PyData.canLay0, PyData.canLayAll0, PyData.depth, PyData.depthAll, c4, h z (.inr rfl)]
  | ok => decide +kernel
theorem fdata_at {K : PySem.W.Frag} {H : Hp} {p : Addr} {f : Flt} (no : f ≠ .ok) (h : H p = some (.tup [.str (fcode f), fval f])) : Dp K H (.ref p) (fdata f) := by
  cases f with
  | node n => exact .tup (SqT.of h) (.cons (.str _) (.cons (.int _) .nil))
  | mark n => exact .tup (SqT.of h) (.cons (.str _) (.cons (.int _) .nil))
  | name z => exact .tup (SqT.of h) (.cons (.str _) (.cons (.str _) .nil))
  | edge z => exact .tup (SqT.of h) (.cons (.str _) (.cons (.str _) .nil))
  | ok => exact absurd rfl no
theorem fcode_ne {f : Flt} (no : f ≠ .ok) : fcode f ≠ Str.ofString "" := by
  cases f with
  | node n => exact (by decide +kernel : ("invalidnode" : Str) ≠ Str.ofString "")
  | mark n => exact (by decide +kernel : ("invalidmark" : Str) ≠ Str.ofString "")
  | name n => exact (by decide +kernel : ("invalidname" : Str) ≠ Str.ofString "")
  | edge n => exact (by decide +kernel : ("invalidedge" : Str) ≠ Str.ofString "")
  | ok => exact absurd rfl no
/-- a pair's dict and its copy -/
theorem copy_marks {K : PySem.W.Frag} {H : Hp} {a c : Addr} {ms : List (Int × Int)} (nd : (ms.map (·.1)).Nodup) (ha : H a = some (.dK (marksK ms))) (hc : H c = some (.dK (marksK ms))) : DictsSay K H a c true := by
  refine say_copy ha hc ?_ fun k v h => ?_
  · rw [keysM]
    exact List.pairwise_map.mpr (nd.imp fun hac he => hac (Sum.inl.inj he))
  · obtain ⟨m, _, e⟩ := List.mem_map.mp h
    injection e with e1 e2
    rw [← e2]
    exact ⟨.int m.2, .int _, by simp [SeqAt.shaped, PyData.canLay0, PyData.depth], SeqAt.eqv_refl _ (SeqAt.canLay_of_shaped (by simp [SeqAt.shaped, PyData.canLay0, PyData.depth]))⟩
theorem copy_nams {K : PySem.W.Frag} {H : Hp} {a c : Addr} {ns : List Nam} (ok : NamsOk H ns) (ha : H a = some (.dK (namsK ns))) (hc : H c = some (.dK (namsK ns))) : DictsSay K H a c true := by
  refine say_copy ha hc ?_ fun k v h => ?_
  · rw [keysN]
    exact List.pairwise_map.mpr (List.pairwise_map.mpr ((List.pairwise_map.mp ok.nd).imp fun {a b} ne z => ne (txt_inj (Sum.inr.inj z))))
  · obtain ⟨x, hx, e⟩ := List.mem_map.mp h
    injection e with e1 e2
    rw [← e2]
    exact ⟨_, .tup (SqT.of (ok.pair x hx)) (.cons (.int _) (.cons (.int _) .nil)), shaped_pair _ _, SeqAt.eqv_refl _ (SeqAt.canLay_of_shaped (shaped_pair _ _))⟩
/-- the names of a web that was made of these dicts, in order -/
theorem made_names {C x : Addr} {H : Hp} {ms ms' : List (Int × Int)} {es es' : List Edg} {ns : List Nam} (alike : namsK ns = endsK es) (web : WebAt C H x ms' es') (m : Made ms ms' es es') : ms'.map (·.1) = (upM ms).map (·.1) ∧ (es'.map fun e => txt [e.letter]) = (upN ns).map fun e => txt e.name := by
  obtain ⟨dx, a1, a2, a3, _, _, _, _, ok⟩ := web
  constructor
  · exact upM_of (m.1.map _) (ok.rise.imp fun h => Int.le_of_lt h)
  · refine upN_of ?_ (pair_sorted _ ?_)
    · have p : (es'.map (·.letter)).Perm (es.map (·.letter)) := by
        have q := m.2.map (·.1)
        rw [List.map_map, List.map_map] at q
        exact q
      have k : (es.map fun e => txt [e.letter]) = ns.map fun e => txt e.name := by
        have q := congrArg (List.map (·.1)) alike
        rw [keysN, keysE] at q
        exact ((List.map_inj_right fun _ _ h => Sum.inr.inj h).mp q).symm
      rw [← k]
      have q := p.map fun c => txt [c]
      rw [List.map_map, List.map_map] at q
      exact q
    · refine List.pairwise_map.mpr ((List.pairwise_map.mp ok.risE).imp fun {a b} lt => ?_)
      show (txt [a.letter]).cps.toList ≤ (txt [b.letter]).cps.toList
      rw [txt_cps, txt_cps]
      exact List.le_of_lt (List.Lex.rel lt)
end Tm

namespace T02
open PySem PySem.Spec PyProof.Rows L2 Tm
open LamX L2H ClX
abbrev sLaw : Stmt := topS 29
theorem scLaw : FnScope ["_law_script", "_law_bag_here", "_law_turn", "_law_raw_here", "_law_marks", "_law_ends", "_law_step", "_law_way", "_law_point", "_law_kept", "_law_due", "_law_told"] ["_law_script"] (defScope sLaw) := ⟨rfl, rfl, rfl, by decide +kernel, rfl, by decide +kernel, by decide +kernel⟩
def lamName : Str := (envOfC "law" (defScope sLaw) 0 0 .none).qual ++ "<lambda>"
section
variable {P : Program} {w : World} {K : PySem.W.Frag} {mg : Str → Option Value} {base : Heap}
theorem tells {CU CT CM : Addr} {fs : List (Str × V)} {c : Str} {v : V} {H : Hp} {Q : VK} (x1 : PySem.W.exmOne K (.ref CU) (.ref CT) = some true) (ex : ∀ d H, H d = some (.xd fs) → ExcIs K (.ref CU) (some d) H c v)
    (out : ∀ H' t, Same H H' → H' t = none → Q (.ref t) (upd H' t (.tup [.str c, v]))) : Raised (wTried K CT CM Q) CU fs H :=
  fun H' d s nd hd => ⟨true, x1, fun z => Bool.noConfusion z, c, v, ex d H' hd, fun H2 t s2 nt => out H2 t (s.trans s2) nt⟩
set_option maxHeartbeats 1500000 in
theorem ok_law {f fB fP fO fS fR fW C CIn CIm CIa CIe CT CM fI0 fN fE fX fF c PT : Addr} {fd fdB fdP fdO fdS fdR fdW fdI0 fdN fdE : FuncData} {mc kVX docX pmX cdX ctX ocX kVF docF pmF cdF ctF ocF : Value} {anX odX anF odF : Option Addr} {slX slF : Array (Option Value)}
    {oc kV dc pm ct : Value} {od an : Option Addr} {sl : Array (Option Value)}
    (lk : K.lookup f = some ⟨oc, od, .func (PySem.W.fnOf "law" "law" (defArgs sLaw) (defBody sLaw) (defScope sLaw) .none kV dc pm an (.ref c) ct), sl⟩) (cc : PySem.W.codeIn K (.ref c) "law" = true)
    (GB : FnOk P w K mg base CX0 1 fB fdB ["_law_script"] (spBag K)) (FB : Fun K "_law_bag" "_law_bag" sBag fB fdB) (bB : Binds K fdB ["_law_script"] []) (gB : mg "_law_bag" = some (.ref fB))
    (GP : FnOk P w K mg base CX0 1 fP fdP ["_law_bag_here", "_law_many"] spPull) (FP : Fun K "_law_pull" "_law_pull" sPull fP fdP) (bP : Binds K fdP ["_law_bag_here", "_law_many"] []) (gP : mg "_law_pull" = some (.ref fP))
    (GO : FnOk P w K mg base CX0 2 fO fdO ["_law_bag_here", "_law_things"] (spOf K)) (FO : Fun K "_law_of" "_law_of" sOf fO fdO) (bO : Binds K fdO ["_law_bag_here", "_law_things"] []) (gO : mg "_law_of" = some (.ref fO))
    (GS : FnOk P w K mg base CX0 3 fS fdS ["_law_found", "_law_due"] (spSame 2)) (FS : Fun K "_law_same" "_law_same" sSame fS fdS) (bS : Binds K fdS ["_law_found", "_law_due"] []) (gS : mg "_law_same" = some (.ref fS))
    (GR : FnOk P w K mg base CX0 3 fR fdR ["_law_bag_here", "_law_wide", "_law_many"] spRaw) (FR : Fun K "_law_raw" "_law_raw" sRaw fR fdR) (bR : Binds K fdR ["_law_bag_here", "_law_wide", "_law_many"] []) (gR : mg "_law_raw" = some (.ref fR))
    (GW : FnOk P w K mg base CX0 2 fW fdW ["_law_marks", "_law_ends"] spWFault) (FW : Fun K "_law_web_fault" "_law_web_fault" sWF fW fdW) (bW : Binds K fdW ["_law_marks", "_law_ends"] []) (gW : mg "_law_web_fault" = some (.ref fW))
    (Mk_ : Mk K C fI0) (GI0 : FnOk P w K mg base (L2.CX P w) 4 fI0 fdI0 ["self", "marks", "edges"] (spWInitE CIn CIm CIa CIe C)) (bI0 : Binds K fdI0 ["self", "marks", "edges"] [])
    (GN : FnOk P w K mg base CX0 1 fN fdN ["self"] (spNodes C)) (bN : Binds K fdN ["self"] []) (mN : Meth K C "nodes" fN)
    (GE : FnOk P w K mg base CX0 1 fE fdE ["self"] (spEdges C)) (bE : Binds K fdE ["self"] []) (mE : Meth K C "edges" fE)
    (T : ChkT K mg C mc) (U : WebT K mg C)
    (gX : mg "_law_tried" = some (.ref fX)) (kX : PySem.W.keepIn K (.ref fX) = true) (lX : K.lookup fX = some ⟨ocX, odX, .func (PySem.W.fnOf "_law_tried" "_law_tried" (defArgs sTried) (defBody sTried) (defScope sTried) .none kVX docX pmX anX cdX ctX), slX⟩) (cX : PySem.W.codeIn K cdX "_law_tried" = true)
    (bX : L2.Binds K (PySem.W.fnOf "_law_tried" "_law_tried" (defArgs sTried) (defBody sTried) (defScope sTried) .none kVX docX pmX anX cdX ctX) ["_law_ask"] [])
    (lF : K.lookup fF = some ⟨ocF, odF, .func (PySem.W.fnOf "_law_field" "_law_field" (defArgs sField) (defBody sField) (defScope sField) .none kVF docF pmF anF cdF ctF), slF⟩) (cF : PySem.W.codeIn K cdF "_law_field" = true)
    (bF : L2.Binds K (PySem.W.fnOf "_law_field" "_law_field" (defArgs sField) (defBody sField) (defScope sField) .none kVF docF pmF anF cdF ctF) ["_law_e"] []) (gF : mg "_law_field" = some (.ref fF)) (kF : PySem.W.keepIn K (.ref fF) = true)
    (gCT : mg "ThreadError" = some (.ref CT)) (gCM : mg "Missing" = some (.ref CM))
    (xIn : PySem.W.exmOne K (.ref CIn) (.ref CT) = some true) (xfIn : XfC K CIn) (ncIn : PySem.W.findIn K (.ref CIn) "code" = some none) (npIn : PySem.W.findIn K (.ref CIn) "node" = some none)
    (xIm : PySem.W.exmOne K (.ref CIm) (.ref CT) = some true) (xfIm : XfC K CIm) (ncIm : PySem.W.findIn K (.ref CIm) "code" = some none) (npIm : PySem.W.findIn K (.ref CIm) "node" = some none)
    (xIa : PySem.W.exmOne K (.ref CIa) (.ref CT) = some true) (xfIa : XfC K CIa) (ncIa : PySem.W.findIn K (.ref CIa) "code" = some none) (npIa : PySem.W.findIn K (.ref CIa) "name" = some none)
    (xIe : PySem.W.exmOne K (.ref CIe) (.ref CT) = some true) (xfIe : XfC K CIe) (ncIe : PySem.W.findIn K (.ref CIe) "code" = some none) (npIe : PySem.W.findIn K (.ref CIe) "name" = some none)
    (TB : TabB base mg c PT) (mr : mg "range" = none) (mdi : mg "dict" = none) :
    FnOk P w K mg base CX0 10 f (PySem.W.fnOf "law" "law" (defArgs sLaw) (defBody sLaw) (defScope sLaw) .none kV dc pm an (.ref c) ct) ["_law_script"] (spLawT K PT) := by
  refine fn_of lk cc scLaw (fun vs H Q E h => ?_) (fun A outer s H vs Q E hr h => ?_)
  · obtain ⟨a, ns, rfl, _⟩ := h
    rfl
  · obtain ⟨a, ns, rfl, sa, few, tab0, hand⟩ := h
    have hr1 : Room 1 _ := hr.mono (by decide)
    have hr2 : Room 2 _ := hr.mono (by decide)
    have hr3 : Room 3 _ := hr.mono (by decide)
    have hr7 : Room 7 _ := hr.mono (by decide)
    have hr8 : Room 8 _ := hr.mono (by decide)
    refine ⟨_, PSs.nox (pss_cons (ps_set (i := 1) scLaw.nd rfl (.inl rfl) (pe_call GB hr1 (by rfl) gB FB.kp bB .nil pass0 (pa_cons (pv 0) pa_nil)))
      (pss_cons (ps_for PassesOwn.never rfl (pi_range1 (by rfl) mr (pa_cons pe_int pa_nil)) (pg_name (i := 2) scLaw.nd rfl (.inl rfl))
        (pss_cons (ps_set (i := 3) scLaw.nd rfl (.inl rfl) (pe_call GR hr3 (by rfl) gR FR.kp bR .nil pass0 (pa_cons (pv 1) (pa_cons pe_int (pa_cons pe_int pa_nil)))))
        (pss_cons (ps_asg (pe_tup (pa_cons (pe_callTy call_dictD (by rfl) mdi boot_dict (pa_cons (pe_ix ix_tup (pv 3) pe_int (fun _ _ => rfl)) pa_nil)) (pa_cons (pe_callTy call_dictD (by rfl) mdi boot_dict (pa_cons (pe_ix ix_tup (pv 3) pe_int (fun _ _ => rfl)) pa_nil)) pa_nil))) (pg_tup rfl (pgs_cons (pg_name (i := 4) scLaw.nd rfl (.inr rfl)) (pgs_cons (pg_name (i := 5) scLaw.nd rfl (.inr rfl)) pgs_nil))))
        (pss_cons (ps_for PassesOwn.never rfl (pi_range1 (by rfl) mr (pa_cons (pe_call GP hr1 (by rfl) gP FP.kp bP .nil pass0 (pa_cons (pv 1) (pa_cons pe_int pa_nil))) pa_nil)) (pg_name (i := 6) scLaw.nd rfl (.inl rfl)) (pss_cons (ps_set (i := 7) scLaw.nd rfl (.inl rfl) (pe_call GP hr1 (by rfl) gP FP.kp bP .nil pass0 (pa_cons (pv 1) (pa_cons pe_int pa_nil))))
        (pss_cons (ps_set (i := 8) scLaw.nd rfl (.inl rfl) (pe_call GO hr2 (by rfl) gO FO.kp bO .nil pass0 (pa_cons (pv 1) (pa_cons (pe_op op_cat (pe_callB (call_sortedDI rfl) (by rfl) T.sorted (by decide +kernel) (pa_cons (pv 4) pa_nil)) (pe_lst (pa_cons (pe_un un_neg pe_int) (pa_cons pe_int (pa_cons (pe_op op_pow pe_int pe_int) (pa_cons (pe_op op_sub pe_int (pe_op op_pow pe_int pe_int)) pa_nil)))))) pa_nil))))
        (pss_cons (ps_if (pt_cmpR op_eq (pv 7) pe_int (nomark _)) (pss_one (ps_dput (hu_of hr) (pv 4) (pe_call GO hr2 (by rfl) gO FO.kp bO .nil pass0 (pa_cons (pv 1) (pa_cons (pe_lst (pa_cons (pe_un un_neg pe_int) (pa_cons pe_int (pa_cons (pe_op op_pow pe_int pe_int) (pa_cons (pe_op op_sub pe_int (pe_op op_pow pe_int pe_int)) (pa_cons pe_int pa_nil)))))) pa_nil))) (pe_call GP hr1 (by rfl) gP FP.kp bP .nil pass0 (pa_cons (pv 1) (pa_cons pe_int pa_nil))) rfl)) pss_nil)
        (pss_cons (ps_if (pt_cmpR op_eq (pv 7) pe_int (nomark _)) (pss_one (ps_dput (hu_of hr) (pv 4) (pv 8) (pe_call GO hr2 (by rfl) gO FO.kp bO .nil pass0 (pa_cons (pv 1) (pa_cons (pe_lst (pa_cons pe_int (pa_cons (pe_un un_neg pe_int) (pa_cons pe_int (pa_cons (pe_op op_pow pe_int pe_int) pa_nil))))) pa_nil))) rfl)) pss_nil)
        (pss_cons (ps_if (pt_cmpR op_eq (pv 7) pe_int (nomark _)) (pss_one (ps_dput (hu_of hr) (pv 5) (pe_call GO hr2 (by rfl) gO FO.kp bO .nil pass0 (pa_cons (pv 1) (pa_cons (pe_lst (pa_cons pe_str (pa_cons pe_str (pa_cons pe_str (pa_cons pe_str (pa_cons pe_str (pa_cons pe_str (pa_cons pe_str pa_nil)))))))) pa_nil))) (pe_tup (pa_cons (pv 8) (pa_cons (pe_op op_add (pv 8) pe_int) pa_nil))) rfl)) pss_nil)
        (pss_one (ps_if (pt_cmpR op_eq (pv 7) pe_int (nomark _)) (pss_one (ps_dput (hu_of hr) (pv 5) (pe_call GO hr2 (by rfl) gO FO.kp bO .nil pass0 (pa_cons (pv 1) (pa_cons (pe_op op_cat (pe_callB (call_sortedD rfl) (by rfl) T.sorted (by decide +kernel) (pa_cons (pv 5) pa_nil)) (pe_lst (pa_cons pe_str pa_nil))) pa_nil))) (pe_call GO hr2 (by rfl) gO FO.kp bO .nil pass0 (pa_cons (pv 1) (pa_cons (pe_lst (pa_cons (pe_tup (pa_cons (pv 8) (pa_cons (pv 8) pa_nil))) (pa_cons (pe_tup (pa_cons (pv 8) (pa_cons pe_int pa_nil))) (pa_cons (pe_tup (pa_cons (pe_un un_neg pe_int) (pa_cons (pv 8) pa_nil))) pa_nil)))) pa_nil))) rfl)) pss_nil))))))))
        (pss_cons (ps_set (i := 9) scLaw.nd rfl (.inl rfl) (pe_tup (pa_cons (pe_callTy call_dictD (by rfl) mdi boot_dict (pa_cons (pv 4) pa_nil)) (pa_cons (pe_callTy call_dictD (by rfl) mdi boot_dict (pa_cons (pv 5) pa_nil)) pa_nil))))
        (pss_cons (ps_set (i := 10) scLaw.nd rfl (.inl rfl) (pe_call GW hr2 (by rfl) gW FW.kp bW .nil pass0 (pa_cons (pv 4) (pa_cons (pv 5) pa_nil))))
        (pss_cons (ps_set (i := 11) scLaw.nd rfl (.inl rfl) (LamX.pe_lamcall (k := 5) (T := [(PT, lamName)]) (TT := TTried K CT CM) (by rfl) gX kX lX cX bX scTried rfl (.inl rfl) (tried_gives (k := 5) gCT gCM lF cF bF gF kF hr8) TB rfl (List.mem_singleton.mpr rfl) (fun p hp _ => by rw [List.mem_singleton.mp hp]; rfl) hr7 (show LamX.LamS (defScope sLaw) _ from LamX.lamS_by (by decide +kernel)) rfl (fun _ _ _ _ _ => rfl)
          (fun A' outer' s' H' E' f' c' room => (pe_make Mk_ GI0 room (by rfl) T.web bI0 .nil (passes_call (takes_of rfl rfl rfl rfl) (fun _ _ _ _ h => h)) (pa_cons (pv 4) (pa_cons (pv 5) pa_nil))))))
        (pss_cons (ps_if (PW.pt (pw_or (pt_cmpR op_ne (pe_ix ix_tup (pv 11) pe_int (fun _ _ => rfl)) (pe_ix ix_tup (pv 10) pe_int (fun _ _ => rfl)) (nomark _)) (pw_or (PW.pt (pw_and (pt_cmpR op_ne (pe_ix ix_tup (pv 10) pe_int (fun _ _ => rfl)) pe_str (nomark _)) (pw_and1 (pt_cmpR (op_neD hr.units) (pv 11) (pv 10) (nomark _))))) (pw_or1 (pt_cmpR (op_nePair (by have := hr.un; show _ + 80 < _; simp only [cxOf]; omega)) (pe_tup (pa_cons (pv 4) (pa_cons (pv 5) pa_nil))) (pv 9) (nomark _)))))) pss_never pss_nil)
        (pss_one (ps_if (PW.pt (pw_and (pt_cmpR op_eq (pe_ix ix_tup (pv 10) pe_int (fun _ _ => rfl)) pe_str (nomark _)) (pw_and1 (pt_not (pt_val (pe_call GS hr3 (by rfl) gS FS.kp bS .nil pass0 (pa_cons (pe_lst (pa_cons (pe_meth0 (pe_ix ix_tup (pv 11) pe_int (fun _ _ => rfl)) U.cl mN GN hr1 bN .nil pass0) (pa_cons (pe_meth0 (pe_ix ix_tup (pv 11) pe_int (fun _ _ => rfl)) U.cl mE GE hr1 bE .nil pass0) pa_nil))) (pa_cons (pe_lst (pa_cons (pe_callB (call_sortedDI rfl) (by rfl) T.sorted (by decide +kernel) (pa_cons (pv 4) pa_nil)) (pa_cons (pe_callB (call_sortedD rfl) (by rfl) T.sorted (by decide +kernel) (pa_cons (pv 5) pa_nil)) pa_nil))) pa_nil)))))))) pss_never pss_nil))))))))))
      (pss_one (ps_ret pe_bl)))), ?_⟩
    refine ⟨_, rfl, a, ns, rfl, sa, fun Hb b l sb nb nl Bb => ?_⟩
    have tabB : Tabs [(PT, lamName)] Hb := tabs_same (tabs_first tab0) sb
    refine ⟨6, rfl, by decide, by decide, for_range (lo := 0) (n := 6) (fun i σ H' => ∃ y2 y3 y4 y5 y6 y7 y8 y9 y10 y11 : Option V, σ = [some (.ref a), some (.ref b), y2, y3, y4, y5, y6, y7, y8, y9, y10, y11] ∧ Bag H' b l ∧ Tabs [(PT, lamName)] H')
      ⟨none, none, none, none, none, none, none, none, none, none, rfl, Bb, tabB⟩ ?_ ?_⟩
    rotate_left
    · rintro σ H1 ⟨y2, y3, y4, y5, y6, y7, y8, y9, y10, y11, rfl, B1, T1⟩
      exact hand _
    · rintro i σ H1 hi ⟨y2, y3, y4, y5, y6, y7, y8, y9, y10, y11, rfl, B1, T1⟩
      refine ⟨_, rfl, b, l, 6, 6, rfl, B1, by decide, by decide, by decide, by decide, fun H2 t ms es k2 B2 raw0 => ?_⟩
      have T2 := tabs_keep T1 (bag_lst B1) k2
      have lm : ms.length ≤ 12 := by
        obtain ⟨dm, de, _, _, _, ok⟩ := raw0
        have q := few_nodes (ms.map (·.1)) 0 (fun k hk => by obtain ⟨m, hm, rfl⟩ := List.mem_map.mp hk; exact ok.node m hm) ok.rise (by decide)
        rw [List.length_map] at q
        omega
      have le : es.length ≤ 24 := by
        obtain ⟨dm, de, _, _, _, ok⟩ := raw0
        have q := few_letters (es.map (·.letter)) 97 (fun k hk => by obtain ⟨e, he, rfl⟩ := List.mem_map.mp hk; exact alpha_range (ok.name e he)) ok.risE (by decide)
        rw [List.length_map] at q
        omega
      obtain ⟨dm, de, ht, hm, hd, mok, eok, less⟩ := raw0.gen
      clear raw0
      refine ⟨_, rfl, t, _, 0, .ref dm, rfl, rfl, SqT.of ht, rfl, dm, _, rfl, .inl hm, fun d1 n1 => ?_⟩
      have s1 : Same H2 (upd H2 d1 (.dK (marksK ms))) := same_upd n1
      refine ⟨_, rfl, t, _, 1, .ref de, rfl, rfl, SqT.of (s1 _ _ ht), rfl, de, _, rfl, .inl (s1 _ _ hd), fun d2 n2 => ⟨by show 2 ≤ sizeLine; decide, fun t2 nt2 => ?_⟩⟩
      have s2 := s1.trans ((same_upd (o := .dK (endsK es)) n2).trans (same_upd (o := .tup [.ref d1, .ref d2]) nt2))
      have hd1 : (upd (upd (upd H2 d1 (.dK (marksK ms))) d2 (.dK (endsK es))) t2 (.tup [.ref d1, .ref d2])) d1 = some (.dK (marksK ms)) := (same_upd nt2) _ _ ((same_upd n2) _ _ upd_same)
      have hd2 : (upd (upd (upd H2 d1 (.dK (marksK ms))) d2 (.dK (endsK es))) t2 (.tup [.ref d1, .ref d2])) d2 = some (.dK (namsK (es.map namOf))) := by
        rw [← ends_nams]
        exact (same_upd nt2) _ _ upd_same
      have off : d1 ≠ d2 := fun z => by rw [← z, upd_same] at n2; cases n2
      have two : Two (upd (upd (upd H2 d1 (.dK (marksK ms))) d2 (.dK (endsK es))) t2 (.tup [.ref d1, .ref d2])) d1 d2 ms (es.map namOf) :=
        ⟨hd1, hd2, off, mok.1, mok.2.1, (nams_of eok).same s2, nams_str eok.2.2.1⟩
      refine ⟨t2, _, rfl, SqT.of upd_same, rfl, ?_⟩
      refine ⟨_, _, rfl, _, _, rfl, rfl, ?_⟩
      have B3 := B2.same s2
      have T3 := tabs_same T2 s2
      have len : ms.length + (es.map namOf).length ≤ 36 := by rw [List.length_map]; omega
      generalize upd (upd (upd H2 d1 (.dK (marksK ms))) d2 (.dK (endsK es))) t2 (.tup [.ref d1, .ref d2]) = H3 at two B3 T3 ⊢
      generalize es.map namOf = ns0 at two len
      clear s1 s2 n1 n2 nt2 ht hm hd eok mok less B1 B2 k2 hd1 hd2 off lm le T1 T2
      dsimp only [gName]
      simp only [List.set_cons_succ, List.set_cons_zero]
      -- the changes
      refine ⟨_, rfl, b, l, 4, rfl, B3, by decide, by decide, fun H4 nst k4 B4 st0 st1 => ⟨nst, rfl, by omega, by omega, ?_⟩⟩
      have two4 := two.kp (bag_lst B3) k4
      have T4 := tabs_keep T3 (bag_lst B3) k4
      clear two B3 T3 k4
      refine for_range (lo := 0) (n := nst.toNat) (fun j σ H' => ∃ (y6 y7 y8 : Option V) (ms : List (Int × Int)) (ns : List Nam), σ = [some (.ref a), some (.ref b), some (.int (0 + (i : Nat))), some (.ref t), some (.ref d1), some (.ref d2), y6, y7, y8, y9, y10, y11] ∧ Bag H' b l ∧ Tabs [(PT, lamName)] H' ∧ Two H' d1 d2 ms ns ∧ ms.length + ns.length ≤ 36 + 4 * j)
        ⟨_, _, _, ms, ns0, rfl, B4, T4, two4, len⟩ ?_ ?_
      · rintro j σ H5 hj ⟨y6, y7, y8, ms, ns, rfl, B5, T5, two5, len5⟩
        have hj3 : j ≤ 2 := by omega
        clear two4 B4 T4 len
        refine ⟨_, rfl, b, l, 4, rfl, B5, by decide, by decide, fun H6 wy k6 B6 w0 w1 => ?_⟩
        have two6 := two5.kp (bag_lst B5) k6
        have T6 := tabs_keep T5 (bag_lst B5) k6
        clear two5 B5 T5 k6
        dsimp only [gName]
        simp only [List.set_cons_succ, List.set_cons_zero]
        -- a point
        refine ⟨_, rfl, _, rfl, d1, _, _, rfl, .inl two6.m, keysM ms, by rw [List.length_map]; exact two6.few, fun ks p pk rk np => ?_⟩
        obtain rfl := upM_of pk rk
        refine ⟨_, rfl, _, _, rfl, rfl, ⟨by decide, by decide, by decide⟩, _, _, rfl, rfl, ⟨by decide, by decide, by decide⟩, _, _, rfl, rfl, by show 4 ≤ sizeLine; decide, fun l1 nl1 => ?_⟩
        have lenU : ((upM ms).map (·.1)).length = ms.length := by rw [List.length_map, (upM_perm ms).length_eq]
        have few6 := two6.few
        refine ⟨p, l1, _, _, rfl, rfl, (same_upd nl1) _ _ upd_same, upd_same, ?_, fun q nq => ?_⟩
        · rw [List.length_map, lenU]
          exact Nat.le_of_lt (small1000 (by show ms.length + 4 ≤ 1000; omega))
        have s6 := ((same_upd (o := .lst (((upM ms).map (·.1)).map V.int)) np).trans (same_upd (o := .lst [.int (-1), .int 12, .int (10 ^ (20 : Int).toNat), .int (0 - 10 ^ (20 : Int).toNat)]) nl1)).trans (same_upd (o := .lst (((upM ms).map (·.1)).map V.int ++ [.int (-1), .int 12, .int (10 ^ (20 : Int).toNat), .int (0 - 10 ^ (20 : Int).toNat)])) nq)
        have nqb : q ≠ b := (B6.same ((same_upd np).trans (same_upd nl1))).nb nq
        refine ⟨b, l, .ref q, _, rfl, B6.same s6, .inl ⟨q, rfl, nqb, SqL.of upd_same⟩, ?_, ?_, fun H7 pt k7 B7 hpt => ?_⟩
        · rw [List.length_append]
          show 0 < _ + 4
          omega
        · rw [List.length_append, List.length_map, lenU]
          show _ + 4 < _
          omega
        obtain ⟨n, rfl⟩ := ints_or (fun v hv => by
          simp only [List.mem_cons, List.not_mem_nil, or_false] at hv
          rcases hv with rfl | rfl | rfl | rfl <;> exact ⟨_, rfl⟩) hpt
        have two7 := (two6.same s6).kp (bag_lst (B6.same s6)) k7
        have T7 := tabs_keep (tabs_same T6 s6) (bag_lst (B6.same s6)) k7
        clear two6 B6 T6 k7 s6 nqb hpt nl1 np nq pk rk lenU few6
        dsimp only [gName]
        simp only [List.set_cons_succ, List.set_cons_zero]
        -- a node
        refine cut (t1 := tIfS _ _ _) (fun σ' H' => ∃ (ms : List (Int × Int)) (ns : List Nam), σ' = [some (.ref a), some (.ref b), some (.int (0 + (i : Nat))), some (.ref t), some (.ref d1), some (.ref d2), some (.int (0 + (j : Nat))), some (.int wy), some (.int n), y9, y10, y11] ∧ Bag H' b l ∧ Tabs [(PT, lamName)] H' ∧ Two H' d1 d2 ms ns ∧ ms.length + ns.length ≤ 36 + 4 * j + 1) (fun σ8 H8 hp => ?tail) (fun N hN => ?head)
        case head =>
          refine ⟨_, rfl, rfl, _, rfl, ?_⟩
          cases hw : decide (V.int wy = V.int 0) with
          | false => exact iteF (hN _ _ ⟨ms, ns, rfl, B7, T7, two7, by omega⟩)
          | true =>
          refine iteT ⟨_, rfl, b, l, 2, rfl, B7, by decide, by decide, fun H8 mv k8 B8 m0 m1 => ?_⟩
          have two8 := two7.kp (bag_lst B7) k8
          have T8 := tabs_keep T7 (bag_lst B7) k8
          refine ⟨_, rfl, _, rfl, _, rfl, _, _, rfl, rfl, ⟨by decide, by decide, by decide⟩, _, _, rfl, rfl, ⟨by decide, by decide, by decide⟩, _, _, rfl, rfl, by show 5 ≤ sizeLine; decide, fun l1 nl1 => ?_⟩
          refine ⟨b, l, .ref l1, _, rfl, B8.same (same_upd nl1), .inl ⟨l1, rfl, B8.nb nl1, SqL.of upd_same⟩, by show 0 < 5; decide, by show 5 < 1073741824; decide, fun H9 kv k9 B9 hkv => ?_⟩
          obtain ⟨k, rfl⟩ : ∃ k : Int, kv = .int k := by
            simp only [List.mem_cons, List.not_mem_nil, or_false] at hkv
            rcases hkv with rfl | rfl | rfl | rfl | rfl <;> exact ⟨_, rfl⟩
          have bl := bag_lst (B8.same (same_upd (o := .lst [.int (-1), .int 12, .int (10 ^ (20 : Int).toNat), .int (0 - 10 ^ (20 : Int).toNat), .int 5]) nl1))
          have two9 := (two8.same (same_upd nl1)).kp bl k9
          have T9 := tabs_keep (tabs_same T8 (same_upd nl1)) bl k9
          refine ⟨d1, _, rfl, DPut.k (k := Sum.inl k) two9.m (by unfold marksK; rw [List.length_map]; exact small1000 (by have := two9.few; omega)), ?_⟩
          rw [putK_marks]
          exact hN _ _ ⟨putM ms k mv, ns, rfl, bag_put B9 two9.m, tabs_put T9 two9.m, two9.putM k mv (by omega), by have := putM_len ms k mv; omega⟩
        case tail =>
        clear two7 B7 T7 len5
        obtain ⟨ms, ns, rfl, B7, T7, two7, len5⟩ := hp
        -- a mark
        refine cut (t1 := tIfS _ _ _) (fun σ' H' => ∃ (ms : List (Int × Int)) (ns : List Nam), σ' = [some (.ref a), some (.ref b), some (.int (0 + (i : Nat))), some (.ref t), some (.ref d1), some (.ref d2), some (.int (0 + (j : Nat))), some (.int wy), some (.int n), y9, y10, y11] ∧ Bag H' b l ∧ Tabs [(PT, lamName)] H' ∧ Two H' d1 d2 ms ns ∧ ms.length + ns.length ≤ 36 + 4 * j + 2) (fun σ8 H8 hp => ?tail) (fun N hN => ?head)
        case head =>
          refine ⟨_, rfl, rfl, _, rfl, ?_⟩
          cases hw : decide (V.int wy = V.int 1) with
          | false => exact iteF (hN _ _ ⟨ms, ns, rfl, B7, T7, two7, by omega⟩)
          | true =>
          refine iteT ⟨_, rfl, _, rfl, _, _, rfl, rfl, ⟨by decide, by decide, by decide⟩, by show 4 ≤ sizeLine; decide, fun l1 nl1 => ?_⟩
          refine ⟨b, l, .ref l1, _, rfl, B7.same (same_upd nl1), .inl ⟨l1, rfl, B7.nb nl1, SqL.of upd_same⟩, by show 0 < 4; decide, by show 4 < 1073741824; decide, fun H9 kv k9 B9 hkv => ?_⟩
          obtain ⟨k, rfl⟩ : ∃ k : Int, kv = .int k := by
            simp only [List.mem_cons, List.not_mem_nil, or_false] at hkv
            rcases hkv with rfl | rfl | rfl | rfl <;> exact ⟨_, rfl⟩
          have bl := bag_lst (B7.same (same_upd (o := .lst [.int 2, .int (-1), .int 0, .int (10 ^ (20 : Int).toNat)]) nl1))
          have two9 := (two7.same (same_upd nl1)).kp bl k9
          have T9 := tabs_keep (tabs_same T7 (same_upd nl1)) bl k9
          refine ⟨_, rfl, _, rfl, d1, _, rfl, DPut.k (k := Sum.inl n) two9.m (by unfold marksK; rw [List.length_map]; exact small1000 (by have := two9.few; omega)), ?_⟩
          rw [putK_marks]
          exact hN _ _ ⟨putM ms n k, ns, rfl, bag_put B9 two9.m, tabs_put T9 two9.m, two9.putM n k (by omega), by have := putM_len ms n k; omega⟩
        case tail =>
        clear two7 B7 T7 len5
        obtain ⟨ms, ns, rfl, B7, T7, two7, len5⟩ := hp
        -- another name
        refine cut (t1 := tIfS _ _ _) (fun σ' H' => ∃ (ms : List (Int × Int)) (ns : List Nam), σ' = [some (.ref a), some (.ref b), some (.int (0 + (i : Nat))), some (.ref t), some (.ref d1), some (.ref d2), some (.int (0 + (j : Nat))), some (.int wy), some (.int n), y9, y10, y11] ∧ Bag H' b l ∧ Tabs [(PT, lamName)] H' ∧ Two H' d1 d2 ms ns ∧ ms.length + ns.length ≤ 36 + 4 * j + 3) (fun σ8 H8 hp => ?tail) (fun N hN => ?head)
        case head =>
          refine ⟨_, rfl, rfl, _, rfl, ?_⟩
          cases hw : decide (V.int wy = V.int 2) with
          | false => exact iteF (hN _ _ ⟨ms, ns, rfl, B7, T7, two7, by omega⟩)
          | true =>
          refine iteT ⟨_, rfl, _, rfl, _, _, rfl, rfl, by show 2 ≤ sizeLine; decide, fun tp ntp => ?_⟩
          have sp := same_upd (o := .tup [.int n, .int (n + 1)]) ntp
          have htp : (upd H8 tp (.tup [.int n, .int (n + 1)])) tp = some (.tup [.int n, .int (n + 1)]) := upd_same
          have two8 := two7.same sp
          have B8 := B7.same sp
          have T8 := tabs_same T7 sp
          generalize upd H8 tp (.tup [.int n, .int (n + 1)]) = H9 at htp two8 B8 T8 ⊢
          refine ⟨_, rfl, _, rfl, by show 7 ≤ sizeLine; decide, fun l1 nl1 => ?_⟩
          refine ⟨b, l, .ref l1, oddNames, rfl, B8.same (same_upd nl1), .inl ⟨l1, rfl, B8.nb nl1, SqL.of upd_same⟩, by show 0 < 7; decide, by show 7 < 1073741824; decide, fun H10 kv k9 B9 hkv => ?_⟩
          obtain ⟨z, rfl, zok⟩ := odd_name hkv
          have bl := bag_lst (B8.same (same_upd (o := .lst oddNames) nl1))
          have two9 := (two8.same (same_upd nl1)).kp bl k9
          have T9 := tabs_keep (tabs_same T8 (same_upd nl1)) bl k9
          have htp2 : H10 tp = some (.tup [.int n, .int (n + 1)]) := by
            obtain ⟨u, hu⟩ := bl
            have h1 := (same_upd (o := .lst oddNames) nl1) _ _ htp
            exact k9 _ _ (ne_of h1 hu (by intro e; cases e)) h1
          refine ⟨d2, _, rfl, DPut.k (k := Sum.inr (txt z)) two9.e (by unfold namsK; rw [List.length_map]; exact small1000 (by have := two9.ok.few; omega)), ?_⟩
          have pn := putK_nams ns ⟨z, tp, n, n + 1⟩
          rw [pn]
          exact hN _ _ ⟨ms, putN ns ⟨z, tp, n, n + 1⟩, rfl, bag_put B9 two9.e, tabs_put T9 two9.e, two9.putN ⟨z, tp, n, n + 1⟩ (by omega) zok.short zok.str htp2, by have := putN_len ns ⟨z, tp, n, n + 1⟩; omega⟩
        case tail =>
        clear two7 B7 T7 len5
        obtain ⟨ms, ns, rfl, B7, T7, two7, len5⟩ := hp
        -- other ends
        refine ⟨_, rfl, rfl, _, rfl, ?_⟩
        cases hw : decide (V.int wy = V.int 3) with
        | false => exact iteF ⟨_, _, _, ms, ns, rfl, B7, T7, two7, by omega⟩
        | true =>
        refine iteT ⟨_, rfl, _, rfl, _, rfl, by show 2 ≤ sizeLine; decide, fun t1 nt1 => ⟨_, rfl, by show 2 ≤ sizeLine; decide, fun t2 nt2 => ⟨_, rfl, _, rfl, by show 2 ≤ sizeLine; decide, fun t3 nt3 => ⟨by show 3 ≤ sizeLine; decide, fun l1 nl1 => ?_⟩⟩⟩⟩
        have s7 := ((((same_upd (o := .tup [.int n, .int n]) nt1).trans (same_upd (o := .tup [.int n, .int 40]) nt2)).trans (same_upd (o := .tup [.int (-7), .int n]) nt3)).trans (same_upd (o := .lst [.ref t1, .ref t2, .ref t3]) nl1))
        have h3 := (same_upd (o := .lst [.ref t1, .ref t2, .ref t3]) nl1) _ _ (upd_same (H := upd (upd H8 t1 (.tup [.int n, .int n])) t2 (.tup [.int n, .int 40])) (a := t3) (o := .tup [.int (-7), .int n]))
        have h2 := (same_upd (o := .lst [.ref t1, .ref t2, .ref t3]) nl1) _ _ ((same_upd (o := .tup [.int (-7), .int n]) nt3) _ _ (upd_same (H := upd H8 t1 (.tup [.int n, .int n])) (a := t2) (o := .tup [.int n, .int 40])))
        have h1 := (same_upd (o := .lst [.ref t1, .ref t2, .ref t3]) nl1) _ _ ((same_upd (o := .tup [.int (-7), .int n]) nt3) _ _ ((same_upd (o := .tup [.int n, .int 40]) nt2) _ _ (upd_same (H := H8) (a := t1) (o := .tup [.int n, .int n]))))
        have B8 := B7.same s7
        have T8 := tabs_same T7 s7
        have two8 := two7.same s7
        have nlb : l1 ≠ b := (B7.same (((same_upd nt1).trans (same_upd nt2)).trans (same_upd nt3))).nb nl1
        refine ⟨b, l, .ref l1, _, rfl, B8, .inl ⟨l1, rfl, nlb, SqL.of upd_same⟩, by show 0 < 3; decide, by show 3 < 1073741824; decide, fun H9 ev k9 B9 hev => ?_⟩
        have bl := bag_lst B8
        have two9 := two8.kp bl k9
        have T9 := tabs_keep T8 bl k9
        have kept : ∀ {p : Addr} {u v : V}, (upd (upd (upd (upd H8 t1 (.tup [.int n, .int n])) t2 (.tup [.int n, .int 40])) t3 (.tup [.int (-7), .int n])) l1 (.lst [.ref t1, .ref t2, .ref t3])) p = some (.tup [u, v]) → H9 p = some (.tup [u, v]) := fun {p u v} h => by
          obtain ⟨us, hu⟩ := bl
          exact k9 _ _ (ne_of h hu (by intro e; cases e)) h
        obtain ⟨ep, lo, hi, rfl, hep⟩ : ∃ (ep : Addr) (lo hi : Int), ev = .ref ep ∧ H9 ep = some (.tup [.int lo, .int hi]) := by
          simp only [List.mem_cons, List.not_mem_nil, or_false] at hev
          rcases hev with rfl | rfl | rfl
          · exact ⟨t1, _, _, rfl, kept h1⟩
          · exact ⟨t2, _, _, rfl, kept h2⟩
          · exact ⟨t3, _, _, rfl, kept h3⟩
        clear kept h1 h2 h3 bl two8 T8 B8 nlb s7 B7 T7 two7 hev k9 nl1 nt1 nt2 nt3
        refine ⟨_, rfl, _, rfl, _, rfl, d2, _, _, rfl, .inl two9.e, keysN ns, by rw [List.length_map]; exact two9.ok.few, fun ys p py ry np => ?_⟩
        obtain rfl := upN_of py ry
        refine ⟨by show 1 ≤ sizeLine; decide, fun l2 nl2 => ?_⟩
        have lenU : ((upN ns).map fun e => txt e.name).length = ns.length := by rw [List.length_map, (upN_perm ns).length_eq]
        have fewN := two9.ok.few
        refine ⟨p, l2, _, _, rfl, rfl, (same_upd nl2) _ _ upd_same, upd_same, ?_, fun q nq => ?_⟩
        · rw [List.length_map, lenU]
          exact Nat.le_of_lt (small1000 (by show ns.length + 1 ≤ 1000; omega))
        have s8 := ((same_upd (o := .lst (((upN ns).map fun e => txt e.name).map V.str)) np).trans (same_upd (o := .lst [.str (Str.ofString "q")]) nl2)).trans (same_upd (o := .lst (((upN ns).map fun e => txt e.name).map V.str ++ [.str (Str.ofString "q")])) nq)
        have nqb : q ≠ b := (B9.same ((same_upd np).trans (same_upd nl2))).nb nq
        refine ⟨b, l, .ref q, _, rfl, B9.same s8, .inl ⟨q, rfl, nqb, SqL.of upd_same⟩, ?_, ?_, fun H10 kv k10 B10 hkv => ?_⟩
        · rw [List.length_append]
          show 0 < _ + 1
          omega
        · rw [List.length_append, List.length_map, lenU]
          show _ + 1 < _
          omega
        obtain ⟨z, rfl, zok⟩ := some_name two9 hkv
        have bl := bag_lst (B9.same s8)
        have two10 := (two9.same s8).kp bl k10
        have T10 := tabs_keep (tabs_same T9 s8) bl k10
        have hep2 : H10 ep = some (.tup [.int lo, .int hi]) := by
          obtain ⟨us, hu⟩ := bl
          have h1 := s8 _ _ hep
          exact k10 _ _ (ne_of h1 hu (by intro e; cases e)) h1
        refine ⟨d2, _, rfl, DPut.k (k := Sum.inr (txt z)) two10.e (by unfold namsK; rw [List.length_map]; exact small1000 (by omega)), ?_⟩
        have pn := putK_nams ns ⟨z, ep, lo, hi⟩
        rw [pn]
        exact ⟨_, _, _, ms, putN ns ⟨z, ep, lo, hi⟩, rfl, bag_put B10 two10.e, tabs_put T10 two10.e, two10.putN ⟨z, ep, lo, hi⟩ (by omega) zok.short zok.str hep2, by have := putN_len ns ⟨z, ep, lo, hi⟩; omega⟩
      rintro σ H5 ⟨y6, y7, y8, ms, ns, rfl, B5, T5, two5, len5⟩
      clear two4 B4 T4 len
      -- copies
      refine ⟨_, rfl, d1, _, rfl, .inl two5.m, fun c1 n1 => ⟨_, rfl, d2, _, rfl, .inl ((same_upd n1) _ _ two5.e), fun c2 n2 => ⟨by show 2 ≤ sizeLine; decide, fun kt nkt => ?_⟩⟩⟩
      have s5 := ((same_upd (o := .dK (marksK ms)) n1).trans (same_upd (o := .dK (namsK ns)) n2)).trans (same_upd (o := .tup [.ref c1, .ref c2]) nkt)
      have hc1 : (upd (upd (upd H5 c1 (.dK (marksK ms))) c2 (.dK (namsK ns))) kt (.tup [.ref c1, .ref c2])) c1 = some (.dK (marksK ms)) := (same_upd nkt) _ _ ((same_upd n2) _ _ upd_same)
      have hc2 : (upd (upd (upd H5 c1 (.dK (marksK ms))) c2 (.dK (namsK ns))) kt (.tup [.ref c1, .ref c2])) c2 = some (.dK (namsK ns)) := (same_upd nkt) _ _ upd_same
      have hkt : (upd (upd (upd H5 c1 (.dK (marksK ms))) c2 (.dK (namsK ns))) kt (.tup [.ref c1, .ref c2])) kt = some (.tup [.ref c1, .ref c2]) := upd_same
      have B6 := B5.same s5
      have T6 := tabs_same T5 s5
      have two6 := two5.same s5
      generalize upd (upd (upd H5 c1 (.dK (marksK ms))) c2 (.dK (namsK ns))) kt (.tup [.ref c1, .ref c2]) = H6 at hc1 hc2 hkt B6 T6 two6 ⊢
      clear s5 n1 n2 nkt two5 B5 T5
      -- what is due
      refine ⟨_, rfl, _, rfl, d1, d2, ms, ns, rfl, two6.m, two6.e, two6.nd, two6.few, two6.ok, fun H7 du s7 ndu => ?_⟩
      have s8 := s7.trans (same_upd (o := .tup [.str (fcode (fault ms ns)), fval (fault ms ns)]) ndu)
      have hdu : (upd H7 du (.tup [.str (fcode (fault ms ns)), fval (fault ms ns)])) du = some (.tup [.str (fcode (fault ms ns)), fval (fault ms ns)]) := upd_same
      have hc1 := s8 _ _ hc1
      have hc2 := s8 _ _ hc2
      have hkt := s8 _ _ hkt
      have B8 := B6.same s8
      have T8 := tabs_same T6 s8
      have two8 := two6.same s8
      generalize upd H7 du (.tup [.str (fcode (fault ms ns)), fval (fault ms ns)]) = H8 at hdu hc1 hc2 hkt B8 T8 two8 ⊢
      clear s7 s8 ndu two6 B6 T6
      dsimp only [gName]
      simp only [List.set_cons_succ, List.set_cons_zero]
      -- what is told
      refine cut (t1 := tAsg _ _) (fun σ' H' => ∃ tt : Addr, σ' = [some (.ref a), some (.ref b), some (.int (0 + (i : Nat))), some (.ref t), some (.ref d1), some (.ref d2), y6, y7, y8, some (.ref kt), some (.ref du), some (.ref tt)] ∧ Bag H' b l ∧ Tabs [(PT, lamName)] H' ∧ Two H' d1 d2 ms ns ∧ H' c1 = some (.dK (marksK ms)) ∧ H' c2 = some (.dK (namsK ns)) ∧ H' kt = some (.tup [.ref c1, .ref c2]) ∧ H' du = some (.tup [.str (fcode (fault ms ns)), fval (fault ms ns)]) ∧
        ((fault ms ns ≠ .ok ∧ H' tt = some (.tup [.str (fcode (fault ms ns)), fval (fault ms ns)])) ∨ (fault ms ns = .ok ∧ ∃ (x : Addr) (ms' : List (Int × Int)) (es es' : List Edg), H' tt = some (.tup [.str (Str.ofString ""), .ref x]) ∧ WebAt C H' x ms' es' ∧ Made ms ms' es es' ∧ namsK ns = endsK es))) (fun σ8 H8 hp => ?tail) (fun N hN => ?head)
      case head =>
        refine ⟨T8, fun H9 ext9 T9 => ?_⟩
        have two9 := two8.ext ext9
        have B9 := bag_ext B8 ext9
        have hc1 := ext9 _ _ hc1 (fun ps q => by cases q)
        have hc2 := ext9 _ _ hc2 (fun ps q => by cases q)
        have hkt := ext9 _ _ hkt (fun ps q => by cases q)
        have hdu := ext9 _ _ hdu (fun ps q => by cases q)
        refine ⟨_, rfl, _, rfl, fun x dx nx ndx nex => ?_⟩
        have s9 : Same H9 (upd (upd H9 dx (.own x)) x (.ins C dx [])) := (same_upd ndx).trans (same_upd (by rw [upd_ne nex.symm]; exact nx))
        have hx : (upd (upd H9 dx (.own x)) x (.ins C dx [])) x = some (.ins C dx []) := upd_same
        generalize upd (upd H9 dx (.own x)) x (.ins C dx []) = H10 at s9 hx ⊢
        have gone : ∀ f, fault ms ns = f → f ≠ .ok → ∀ H' t', Same H10 H' → H' t' = none → N [some (.ref a), some (.ref b), some (.int (0 + (i : Nat))), some (.ref t), some (.ref d1), some (.ref d2), y6, y7, y8, some (.ref kt), some (.ref du), some (.ref t')] (upd H' t' (.tup [.str (fcode f), fval f])) := by
          rintro f e no H' t' s nt
          have s11 := (s9.trans s).trans (same_upd (o := .tup [.str (fcode f), fval f]) nt)
          refine hN _ _ ⟨t', rfl, B9.same s11, tabs_same T9 s11, two9.same s11, s11 _ _ hc1, s11 _ _ hc2, s11 _ _ hkt, s11 _ _ hdu, .inl ⟨by rw [e]; exact no, ?_⟩⟩
          rw [e]
          exact upd_same
        refine ⟨x, dx, d1, d2, ms, ns, rfl, hx, s9 _ _ two9.m, s9 _ _ two9.e, two9.nd, two9.few, two9.ok.same s9, ⟨fun n e => ?_, fun n e => ?_, fun z e => ?_, fun z e => ?_⟩, fun e H' es ms' es' alike kp web made => ⟨rfl, by show 2 ≤ sizeLine; decide, fun t' nt' => ?_⟩⟩
        · exact tells xIn (fun d H hd => exc_node at_invalidnode xfIn ncIn npIn hd) fun H' t' s nt => gone _ e (by intro z; cases z) H' t' s nt
        · exact tells xIm (fun d H hd => exc_node at_invalidmark xfIm ncIm npIm hd) fun H' t' s nt => gone _ e (by intro z; cases z) H' t' s nt
        · exact tells xIa (fun d H hd => exc_name at_invalidname xfIa ncIa npIa hd) fun H' t' s nt => gone _ e (by intro z; cases z) H' t' s nt
        · exact tells xIe (fun d H hd => exc_name at_invalidedge xfIe ncIe npIe hd) fun H' t' s nt => gone _ e (by intro z; cases z) H' t' s nt
        · have s10 : Same H9 H' := fun p o hp => kp p o (fun z => by rw [z, nx] at hp; cases hp) (s9 _ _ hp)
          have s11 := s10.trans (same_upd (o := .tup [.str (Str.ofString ""), .ref x]) nt')
          exact hN _ _ ⟨t', rfl, B9.same s11, tabs_same T9 s11, two9.same s11, s11 _ _ hc1, s11 _ _ hc2, s11 _ _ hkt, s11 _ _ hdu, .inr ⟨e, x, ms', es, es', upd_same, web.same (same_upd nt'), made, alike⟩⟩
      case tail =>
      clear hc1 hc2 hkt hdu B8 T8 two8
      obtain ⟨tt, rfl, B8, T8, two8, hc1, hc2, hkt, hdu, either⟩ := hp
      have first : ∃ v, H8 tt = some (.tup [.str (fcode (fault ms ns)), v]) := by
        rcases either with ⟨_, h⟩ | ⟨e, x, _, _, _, h, _⟩
        · exact ⟨_, h⟩
        · rw [e]; exact ⟨_, h⟩
      obtain ⟨v0, htt⟩ := first
      -- beside one another
      refine ⟨_, rfl, tt, _, 0, .str (fcode (fault ms ns)), rfl, rfl, SqT.of htt, rfl, _, rfl, du, _, 0, .str (fcode (fault ms ns)), rfl, rfl, SqT.of hdu, rfl, rfl, _, rfl, ?_⟩
      refine ifF (by rw [decide_eq_true rfl]; rfl) ?_
      refine ⟨_, rfl, du, _, 0, .str (fcode (fault ms ns)), rfl, rfl, SqT.of hdu, rfl, rfl, _, rfl, ?_⟩
      rcases either with ⟨no, hx⟩ | ⟨eok, x, ms', es, es', hx, web, made, alike⟩
      · refine ifT (by rw [decide_eq_false (fun z => fcode_ne no (V.str.inj z))]; rfl) ?_
        have shp := fdata_shaped (fault_str (ms := ms) two8.str)
        refine ⟨_, rfl, _, rfl, fdata (fault ms ns), fdata (fault ms ns), fdata_at no hx, fdata_at no hdu, shp, shp, _, rfl, ?_⟩
        refine ifF (by rw [SeqAt.eqv_refl _ (SeqAt.canLay_of_shaped shp)]; rfl) ?_
        refine ⟨_, rfl, _, rfl, by show 2 ≤ sizeLine; decide, fun tp ntp => ⟨_, rfl, ?_⟩⟩
        have s9 := same_upd (o := .tup [.ref d1, .ref d2]) ntp
        have two9 := two8.same s9
        refine ⟨tp, kt, d1, d2, c1, c2, rfl, rfl, upd_same, s9 _ _ hkt, copy_marks two9.nd two9.m (s9 _ _ hc1), copy_nams two9.ok two9.e (s9 _ _ hc2), _, rfl, iteF ?_⟩
        refine ⟨_, rfl, du, _, 0, .str (fcode (fault ms ns)), rfl, rfl, SqT.of (s9 _ _ hdu), rfl, rfl, _, rfl, ?_⟩
        refine ifF (decide_eq_false (fun z => fcode_ne no (V.str.inj z))) (iteF ?_)
        exact ⟨_, _, _, _, _, _, _, _, _, _, rfl, B8.same s9, tabs_same T8 s9⟩
      · refine ifF (by rw [eok, decide_eq_true (show V.str (fcode Flt.ok) = V.str (Str.ofString "") from rfl)]; rfl) (iteF ?_)
        refine ⟨_, rfl, _, rfl, by show 2 ≤ sizeLine; decide, fun tp ntp => ⟨_, rfl, ?_⟩⟩
        have s9 := same_upd (o := .tup [.ref d1, .ref d2]) ntp
        have two9 := two8.same s9
        refine ⟨tp, kt, d1, d2, c1, c2, rfl, rfl, upd_same, s9 _ _ hkt, copy_marks two9.nd two9.m (s9 _ _ hc1), copy_nams two9.ok two9.e (s9 _ _ hc2), _, rfl, iteF ?_⟩
        refine ⟨_, rfl, du, _, 0, .str (fcode (fault ms ns)), rfl, rfl, SqT.of (s9 _ _ hdu), rfl, rfl, _, rfl, ?_⟩
        refine ifT (by rw [eok]; exact decide_eq_true rfl) ?_
        have web9 := web.same s9
        have hx9 := s9 _ _ hx
        have B9 := B8.same s9
        have T9 := tabs_same T8 s9
        generalize upd H8 tp (.tup [.ref d1, .ref d2]) = H9 at two9 web9 hx9 B9 T9 ⊢
        clear s9 two8 B8 T8 hc1 hc2 hkt hdu hx web ntp htt
        obtain ⟨same1, same2⟩ := made_names alike web9 made
        obtain ⟨dx, a1, a2, a3, hw9, _⟩ := id web9
        have noA : ∀ {m : Str}, ¬ m = "marks" → ¬ m = "pairs" → ¬ m = "stars" → (webF a1 a2 a3).lookup m = none := fun u v w => webF_no a1 a2 a3 u v w
        refine ⟨_, rfl, tt, _, 1, .ref x, rfl, rfl, SqT.of hx9, rfl, x, dx, _, rfl, hw9, noA (by decide +kernel) (by decide +kernel) (by decide +kernel), x, ms', es', rfl, web9, fun p1 n1 => ?_⟩
        have s1 := same_upd (o := .lst ((ms'.map (·.1)).map V.int)) n1
        refine ⟨_, rfl, tt, _, 1, .ref x, rfl, rfl, SqT.of (s1 _ _ hx9), rfl, x, dx, _, rfl, s1 _ _ hw9, noA (by decide +kernel) (by decide +kernel) (by decide +kernel), x, ms', es', rfl, web9.same s1, fun p2 n2 => ⟨by show 2 ≤ sizeLine; decide, fun l1 nl1 => ?_⟩⟩
        have s2 := s1.trans ((same_upd (o := .lst ((es'.map (·.letter)).map sig)) n2).trans (same_upd (o := .lst [.ref p1, .ref p2]) nl1))
        have hp1 : (upd (upd (upd H9 p1 (.lst ((ms'.map (·.1)).map V.int))) p2 (.lst ((es'.map (·.letter)).map sig))) l1 (.lst [.ref p1, .ref p2])) p1 = some (.lst ((ms'.map (·.1)).map V.int)) := (same_upd nl1) _ _ ((same_upd n2) _ _ upd_same)
        have hp2 : (upd (upd (upd H9 p1 (.lst ((ms'.map (·.1)).map V.int))) p2 (.lst ((es'.map (·.letter)).map sig))) l1 (.lst [.ref p1, .ref p2])) p2 = some (.lst ((es'.map (·.letter)).map sig)) := (same_upd nl1) _ _ upd_same
        have hl1 : (upd (upd (upd H9 p1 (.lst ((ms'.map (·.1)).map V.int))) p2 (.lst ((es'.map (·.letter)).map sig))) l1 (.lst [.ref p1, .ref p2])) l1 = some (.lst [.ref p1, .ref p2]) := upd_same
        have two10 := two9.same s2
        have B10 := B9.same s2
        have T10 := tabs_same T9 s2
        generalize upd (upd (upd H9 p1 (.lst ((ms'.map (·.1)).map V.int))) p2 (.lst ((es'.map (·.letter)).map sig))) l1 (.lst [.ref p1, .ref p2]) = H10 at hp1 hp2 hl1 two10 B10 T10 ⊢
        clear s1 s2 n1 n2 nl1 two9 B9 T9 web9 hx9 hw9
        refine ⟨_, rfl, d1, _, _, rfl, .inl two10.m, keysM ms, by rw [List.length_map]; exact two10.few, fun ks q1 pk rk nq1 => ?_⟩
        obtain rfl := upM_of pk rk
        have s1 := same_upd (o := .lst (((upM ms).map (·.1)).map V.int)) nq1
        refine ⟨_, rfl, d2, _, _, rfl, .inl (s1 _ _ two10.e), keysN ns, by rw [List.length_map]; exact two10.ok.few, fun ys q2 py ry nq2 => ⟨by show 2 ≤ sizeLine; decide, fun l2 nl2 => ?_⟩⟩
        obtain rfl := upN_of py ry
        have s2 := s1.trans ((same_upd (o := .lst (((upN ns).map fun e => txt e.name).map V.str)) nq2).trans (same_upd (o := .lst [.ref q1, .ref q2]) nl2))
        have hq1 : (upd (upd (upd H10 q1 (.lst (((upM ms).map (·.1)).map V.int))) q2 (.lst (((upN ns).map fun e => txt e.name).map V.str))) l2 (.lst [.ref q1, .ref q2])) q1 = some (.lst (((upM ms).map (·.1)).map V.int)) := (same_upd nl2) _ _ ((same_upd nq2) _ _ upd_same)
        have hq2 : (upd (upd (upd H10 q1 (.lst (((upM ms).map (·.1)).map V.int))) q2 (.lst (((upN ns).map fun e => txt e.name).map V.str))) l2 (.lst [.ref q1, .ref q2])) q2 = some (.lst (((upN ns).map fun e => txt e.name).map V.str)) := (same_upd nl2) _ _ upd_same
        have hl2 : (upd (upd (upd H10 q1 (.lst (((upM ms).map (·.1)).map V.int))) q2 (.lst (((upN ns).map fun e => txt e.name).map V.str))) l2 (.lst [.ref q1, .ref q2])) l2 = some (.lst [.ref q1, .ref q2]) := upd_same
        have hp1 := s2 _ _ hp1
        have hp2 := s2 _ _ hp2
        have hl1 := s2 _ _ hl1
        have B11 := B10.same s2
        have T11 := tabs_same T10 s2
        have fewM := two10.few
        have fewN := two10.ok.few
        generalize upd (upd (upd H10 q1 (.lst (((upM ms).map (·.1)).map V.int))) q2 (.lst (((upN ns).map fun e => txt e.name).map V.str))) l2 (.lst [.ref q1, .ref q2]) = H11 at hq1 hq2 hl2 hp1 hp2 hl1 B11 T11 ⊢
        have e2 : (es'.map (·.letter)).map sig = ((upN ns).map fun e => txt e.name).map V.str := by
          rw [← same2, List.map_map, List.map_map]
          rfl
        rw [same1] at hp1
        rw [e2] at hp2
        refine ⟨.ref l1, .ref l2, rfl, .lst hl1 hl2 rfl (by show 2 ≤ 10000; decide) ?_, fun H12 s12 => ⟨_, rfl, iteF ⟨_, _, _, _, _, _, _, _, _, _, rfl, B11.same s12, tabs_same T11 s12⟩⟩⟩
        intro k u v hu hv
        match k, hu, hv with
        | 0, hu, hv =>
          cases hu
          cases hv
          exact eqv_ints hp1 hq1 (by rw [List.length_map, (upM_perm ms).length_eq]; omega)
        | 1, hu, hv =>
          cases hu
          cases hv
          refine eqv_texts (fun v hv => ?_) hp2 hq2 (by rw [List.length_map, List.length_map, (upN_perm ns).length_eq]; omega)
          obtain ⟨y, hy, rfl⟩ := List.mem_map.mp hv
          obtain ⟨e, _, rfl⟩ := List.mem_map.mp hy
          exact ⟨_, rfl⟩
        | k + 2, hu, hv => cases hu
end


end T02

namespace T02
open PySem PySem.Spec PyProof.Rows L2 Tm
open LamX L2H ClX
set_option maxHeartbeats 4000000 in
theorem all_mk {l : PySem.W.OpenLaw} {w : World} {K : PySem.W.Frag} {h : Heap} {mg : Str → Option Value} {fa CNn CNm CNa CNe CT CM C  c fB fP fO fM fE fFi fTr fA fR fW fIn fIm fIa fJ fCm fCe flaw fXNn fXNm fXNa fXNe finit fnod fedg : Addr} (PT : Addr) {nmNn qNn NNn bsNn bmNn snNn subNn abNn colNn ddNn k0Nn k1Nn k2Nn k3Nn k5Nn} {nmNm qNm NNm bsNm bmNm snNm subNm abNm colNm ddNm k0Nm k1Nm k2Nm k3Nm k5Nm} {nmNa qNa NNa bsNa bmNa snNa subNa abNa colNa ddNa k0Na k1Na k2Na k3Na k5Na} {nmNe qNe NNe bsNe bmNe snNe subNe abNe colNe ddNe k0Ne k1Ne k2Ne k3Ne k5Ne} (X : K.In h) (G : h.Ns mainGlobals mg) (hfa : mg "law" = some (.ref fa))
    (empty : h.get? PT = some { cls := .none, data := .fields #[] })
    {odB odP odO odM odE odFi odTr odA odR odW odIn odIm odIa odJ odCm odCe odlaw odXNn odXNm odXNa odXNe odinit odnod odedg anB anP anO anM anE anFi anTr anA anR anW anIn anIm anIa anJ anCm anCe anlaw anXNn anXNm anXNa anXNe aninit annod anedg : Option Addr} {slB slP slO slM slE slFi slTr slA slR slW slIn slIm slIa slJ slCm slCe sllaw slXNn slXNm slXNa slXNe slinit slnod sledg : Array (Option Value)} {ocB ocP ocO ocM ocE ocFi ocTr ocA ocR ocW ocIn ocIm ocIa ocJ ocCm ocCe oclaw ocXNn ocXNm ocXNa ocXNe ocinit ocnod ocedg kVB kVP kVO kVM kVE kVFi kVTr kVA kVR kVW kVIn kVIm kVIa kVJ kVCm kVCe kVlaw kVXNn kVXNm kVXNa kVXNe kVinit kVnod kVedg dcB dcP dcO dcM dcE dcFi dcTr dcA dcR dcW dcIn dcIm dcIa dcJ dcCm dcCe dclaw dcXNn dcXNm dcXNa dcXNe dcinit dcnod dcedg pmB pmP pmO pmM pmE pmFi pmTr pmA pmR pmW pmIn pmIm pmIa pmJ pmCm pmCe pmlaw pmXNn pmXNm pmXNa pmXNe pminit pmnod pmedg cdB cdP cdO cdM cdE cdFi cdTr cdA cdR cdW cdIn cdIm cdIa cdJ cdCm cdCe cdXNn cdXNm cdXNa cdXNe cdinit cdnod cdedg ctB ctP ctO ctM ctE ctFi ctTr ctA ctR ctW ctIn ctIm ctIa ctJ ctCm ctCe ctlaw ctXNn ctXNm ctXNa ctXNe ctinit ctnod ctedg : Value}  {tN tA : Tok} 
    (aNn : PySem.W.nsIn K mainGlobals "InvalidNode" = some (some (.ref CNn)))
    (aNm : PySem.W.nsIn K mainGlobals "InvalidMark" = some (some (.ref CNm)))
    (aNa : PySem.W.nsIn K mainGlobals "InvalidName" = some (some (.ref CNa)))
    (aNe : PySem.W.nsIn K mainGlobals "InvalidEdge" = some (some (.ref CNe)))
    (aCT : PySem.W.nsIn K mainGlobals "ThreadError" = some (some (.ref CT)))
    (aCM : PySem.W.nsIn K mainGlobals "Missing" = some (some (.ref CM)))
    (aC0 : PySem.W.nsIn K mainGlobals "Web" = some (some (.ref C)))
    (aB : PySem.W.nsIn K mainGlobals "_law_bag" = some (some (.ref fB)))
    (lB : K.lookup fB = some ⟨ocB, odB, .func (PySem.W.fnOf "_law_bag" "_law_bag" (defArgs sBag) (defBody sBag) (defScope sBag) .none kVB dcB pmB anB cdB ctB), slB⟩)
    (cB : PySem.W.codeIn K cdB "_law_bag" = true)
    (kB : PySem.W.keepIn K (.ref fB) = true)
    (aP : PySem.W.nsIn K mainGlobals "_law_pull" = some (some (.ref fP)))
    (lP : K.lookup fP = some ⟨ocP, odP, .func (PySem.W.fnOf "_law_pull" "_law_pull" (defArgs sPull) (defBody sPull) (defScope sPull) .none kVP dcP pmP anP cdP ctP), slP⟩)
    (cP : PySem.W.codeIn K cdP "_law_pull" = true)
    (kP : PySem.W.keepIn K (.ref fP) = true)
    (aO : PySem.W.nsIn K mainGlobals "_law_of" = some (some (.ref fO)))
    (lO : K.lookup fO = some ⟨ocO, odO, .func (PySem.W.fnOf "_law_of" "_law_of" (defArgs sOf) (defBody sOf) (defScope sOf) .none kVO dcO pmO anO cdO ctO), slO⟩)
    (cO : PySem.W.codeIn K cdO "_law_of" = true)
    (kO : PySem.W.keepIn K (.ref fO) = true)
    (aM : PySem.W.nsIn K mainGlobals "_law_mixed" = some (some (.ref fM)))
    (lM : K.lookup fM = some ⟨ocM, odM, .func (PySem.W.fnOf "_law_mixed" "_law_mixed" (defArgs sMixed) (defBody sMixed) (defScope sMixed) .none kVM dcM pmM anM cdM ctM), slM⟩)
    (cM : PySem.W.codeIn K cdM "_law_mixed" = true)
    (kM : PySem.W.keepIn K (.ref fM) = true)
    (aE : PySem.W.nsIn K mainGlobals "_law_same" = some (some (.ref fE)))
    (lE : K.lookup fE = some ⟨ocE, odE, .func (PySem.W.fnOf "_law_same" "_law_same" (defArgs sSame) (defBody sSame) (defScope sSame) .none kVE dcE pmE anE cdE ctE), slE⟩)
    (cE : PySem.W.codeIn K cdE "_law_same" = true)
    (kE : PySem.W.keepIn K (.ref fE) = true)
    (aFi : PySem.W.nsIn K mainGlobals "_law_field" = some (some (.ref fFi)))
    (lFi : K.lookup fFi = some ⟨ocFi, odFi, .func (PySem.W.fnOf "_law_field" "_law_field" (defArgs sField) (defBody sField) (defScope sField) .none kVFi dcFi pmFi anFi cdFi ctFi), slFi⟩)
    (cFi : PySem.W.codeIn K cdFi "_law_field" = true)
    (kFi : PySem.W.keepIn K (.ref fFi) = true)
    (aTr : PySem.W.nsIn K mainGlobals "_law_tried" = some (some (.ref fTr)))
    (lTr : K.lookup fTr = some ⟨ocTr, odTr, .func (PySem.W.fnOf "_law_tried" "_law_tried" (defArgs sTried) (defBody sTried) (defScope sTried) .none kVTr dcTr pmTr anTr cdTr ctTr), slTr⟩)
    (cTr : PySem.W.codeIn K cdTr "_law_tried" = true)
    (kTr : PySem.W.keepIn K (.ref fTr) = true)
    (aA : PySem.W.nsIn K mainGlobals "_law_letters" = some (some (.ref fA)))
    (lA : K.lookup fA = some ⟨ocA, odA, .func (PySem.W.fnOf "_law_letters" "_law_letters" (defArgs sLets) (defBody sLets) (defScope sLets) .none kVA dcA pmA anA cdA ctA), slA⟩)
    (cA : PySem.W.codeIn K cdA "_law_letters" = true)
    (kA : PySem.W.keepIn K (.ref fA) = true)
    (aR : PySem.W.nsIn K mainGlobals "_law_raw" = some (some (.ref fR)))
    (lR : K.lookup fR = some ⟨ocR, odR, .func (PySem.W.fnOf "_law_raw" "_law_raw" (defArgs sRaw) (defBody sRaw) (defScope sRaw) .none kVR dcR pmR anR cdR ctR), slR⟩)
    (cR : PySem.W.codeIn K cdR "_law_raw" = true)
    (kR : PySem.W.keepIn K (.ref fR) = true)
    (aW : PySem.W.nsIn K mainGlobals "_law_web_fault" = some (some (.ref fW)))
    (lW : K.lookup fW = some ⟨ocW, odW, .func (PySem.W.fnOf "_law_web_fault" "_law_web_fault" (defArgs sWF) (defBody sWF) (defScope sWF) .none kVW dcW pmW anW cdW ctW), slW⟩)
    (cW : PySem.W.codeIn K cdW "_law_web_fault" = true)
    (kW : PySem.W.keepIn K (.ref fW) = true)
    (aIn : PySem.W.nsIn K mainGlobals "is_node" = some (some (.ref fIn)))
    (lIn : K.lookup fIn = some ⟨ocIn, odIn, .func (PySem.W.fnOf "is_node" "is_node" (defArgs sIsNode) (defBody sIsNode) (defScope sIsNode) .none kVIn dcIn pmIn anIn cdIn ctIn), slIn⟩)
    (cIn : PySem.W.codeIn K cdIn "is_node" = true)
    (kIn : PySem.W.keepIn K (.ref fIn) = true)
    (aIm : PySem.W.nsIn K mainGlobals "is_mark" = some (some (.ref fIm)))
    (lIm : K.lookup fIm = some ⟨ocIm, odIm, .func (PySem.W.fnOf "is_mark" "is_mark" (defArgs sIsMark) (defBody sIsMark) (defScope sIsMark) .none kVIm dcIm pmIm anIm cdIm ctIm), slIm⟩)
    (cIm : PySem.W.codeIn K cdIm "is_mark" = true)
    (kIm : PySem.W.keepIn K (.ref fIm) = true)
    (aIa : PySem.W.nsIn K mainGlobals "is_name" = some (some (.ref fIa)))
    (lIa : K.lookup fIa = some ⟨ocIa, odIa, .func (PySem.W.fnOf "is_name" "is_name" (defArgs sIsName) (defBody sIsName) (defScope sIsName) .none kVIa dcIa pmIa anIa cdIa ctIa), slIa⟩)
    (cIa : PySem.W.codeIn K cdIa "is_name" = true)
    (kIa : PySem.W.keepIn K (.ref fIa) = true)
    (aJ : PySem.W.nsIn K mainGlobals "joins_two" = some (some (.ref fJ)))
    (lJ : K.lookup fJ = some ⟨ocJ, odJ, .func (PySem.W.fnOf "joins_two" "joins_two" (defArgs sJoins) (defBody sJoins) (defScope sJoins) .none kVJ dcJ pmJ anJ cdJ ctJ), slJ⟩)
    (cJ : PySem.W.codeIn K cdJ "joins_two" = true)
    (kJ : PySem.W.keepIn K (.ref fJ) = true)
    (aCm : PySem.W.nsIn K mainGlobals "check_marks" = some (some (.ref fCm)))
    (lCm : K.lookup fCm = some ⟨ocCm, odCm, .func (PySem.W.fnOf "check_marks" "check_marks" (defArgs sChkM) (defBody sChkM) (defScope sChkM) .none kVCm dcCm pmCm anCm cdCm ctCm), slCm⟩)
    (cCm : PySem.W.codeIn K cdCm "check_marks" = true)
    (kCm : PySem.W.keepIn K (.ref fCm) = true)
    (aCe : PySem.W.nsIn K mainGlobals "check_edges" = some (some (.ref fCe)))
    (lCe : K.lookup fCe = some ⟨ocCe, odCe, .func (PySem.W.fnOf "check_edges" "check_edges" (defArgs sChkE) (defBody sChkE) (defScope sChkE) .none kVCe dcCe pmCe anCe cdCe ctCe), slCe⟩)
    (cCe : PySem.W.codeIn K cdCe "check_edges" = true)
    (kCe : PySem.W.keepIn K (.ref fCe) = true)
    (alaw : PySem.W.nsIn K mainGlobals "law" = some (some (.ref flaw)))
    (llaw : K.lookup flaw = some ⟨oclaw, odlaw, .func (PySem.W.fnOf "law" "law" (defArgs sLaw) (defBody sLaw) (defScope sLaw) .none kVlaw dclaw pmlaw anlaw (.ref c) ctlaw), sllaw⟩)
    (claw : PySem.W.codeIn K (.ref c) "law" = true)
    (klaw : PySem.W.keepIn K (.ref flaw) = true)
    (aXNn : PySem.W.findIn K (.ref CNn) "__init__" = some (some (.ref fXNn)))
    (lXNn : K.lookup fXNn = some ⟨ocXNn, odXNn, .func (PySem.W.fnOf "__init__" "InvalidNode.__init__" (defArgs sEIn) (defBody sEIn) (defScope sEIn) .none kVXNn dcXNn pmXNn anXNn cdXNn ctXNn), slXNn⟩)
    (cXNn : PySem.W.codeIn K cdXNn "InvalidNode.__init__" = true)
    (kXNn : PySem.W.keepIn K (.ref fXNn) = true)
    (tXNn : PySem.W.typeIn K (.ref fXNn) = some (.type "function"))
    (saNn : PySem.W.findIn K (.ref CNn) "__setattr__" = some (some (.builtin "object.__setattr__")))
    (exCNn : PySem.W.subIn K (.ref CNn) (.type "BaseException") = some true)
    (tyCNn : PySem.W.typeIn K (.ref CNn) = some (.type "type"))
    (kCNn : PySem.W.keepIn K (.ref CNn) = true)
    (clsNn : K.lookup CNn = some (excClassObj nmNn qNn CNn NNn bsNn bmNn true snNn subNn abNn colNn ddNn k0Nn k1Nn k2Nn k3Nn k5Nn "ValueError.__new__"))
    (rvNn : PySem.HandSPX.refsVE bmNn = true)
    (ncNn : PySem.W.findIn K (.ref CNn) "code" = some none)
    (x1Nn : PySem.W.exmOne K (.ref CNn) (.ref CT) = some true)
    (xmNn : PySem.W.exmOne K (.ref CNn) (.ref CM) = some false)
    (xfNn : xfB K CNn = true)
    (n_nodeNn : PySem.W.findIn K (.ref CNn) "node" = some none)
    (aXNm : PySem.W.findIn K (.ref CNm) "__init__" = some (some (.ref fXNm)))
    (lXNm : K.lookup fXNm = some ⟨ocXNm, odXNm, .func (PySem.W.fnOf "__init__" "InvalidMark.__init__" (defArgs sEIm) (defBody sEIm) (defScope sEIm) .none kVXNm dcXNm pmXNm anXNm cdXNm ctXNm), slXNm⟩)
    (cXNm : PySem.W.codeIn K cdXNm "InvalidMark.__init__" = true)
    (kXNm : PySem.W.keepIn K (.ref fXNm) = true)
    (tXNm : PySem.W.typeIn K (.ref fXNm) = some (.type "function"))
    (saNm : PySem.W.findIn K (.ref CNm) "__setattr__" = some (some (.builtin "object.__setattr__")))
    (exCNm : PySem.W.subIn K (.ref CNm) (.type "BaseException") = some true)
    (tyCNm : PySem.W.typeIn K (.ref CNm) = some (.type "type"))
    (kCNm : PySem.W.keepIn K (.ref CNm) = true)
    (clsNm : K.lookup CNm = some (excClassObj nmNm qNm CNm NNm bsNm bmNm true snNm subNm abNm colNm ddNm k0Nm k1Nm k2Nm k3Nm k5Nm "ValueError.__new__"))
    (rvNm : PySem.HandSPX.refsVE bmNm = true)
    (ncNm : PySem.W.findIn K (.ref CNm) "code" = some none)
    (x1Nm : PySem.W.exmOne K (.ref CNm) (.ref CT) = some true)
    (xmNm : PySem.W.exmOne K (.ref CNm) (.ref CM) = some false)
    (xfNm : xfB K CNm = true)
    (n_nodeNm : PySem.W.findIn K (.ref CNm) "node" = some none)
    (aXNa : PySem.W.findIn K (.ref CNa) "__init__" = some (some (.ref fXNa)))
    (lXNa : K.lookup fXNa = some ⟨ocXNa, odXNa, .func (PySem.W.fnOf "__init__" "InvalidName.__init__" (defArgs sEIa) (defBody sEIa) (defScope sEIa) .none kVXNa dcXNa pmXNa anXNa cdXNa ctXNa), slXNa⟩)
    (cXNa : PySem.W.codeIn K cdXNa "InvalidName.__init__" = true)
    (kXNa : PySem.W.keepIn K (.ref fXNa) = true)
    (tXNa : PySem.W.typeIn K (.ref fXNa) = some (.type "function"))
    (saNa : PySem.W.findIn K (.ref CNa) "__setattr__" = some (some (.builtin "object.__setattr__")))
    (exCNa : PySem.W.subIn K (.ref CNa) (.type "BaseException") = some true)
    (tyCNa : PySem.W.typeIn K (.ref CNa) = some (.type "type"))
    (kCNa : PySem.W.keepIn K (.ref CNa) = true)
    (clsNa : K.lookup CNa = some (excClassObj nmNa qNa CNa NNa bsNa bmNa true snNa subNa abNa colNa ddNa k0Na k1Na k2Na k3Na k5Na "ValueError.__new__"))
    (rvNa : PySem.HandSPX.refsVE bmNa = true)
    (ncNa : PySem.W.findIn K (.ref CNa) "code" = some none)
    (x1Na : PySem.W.exmOne K (.ref CNa) (.ref CT) = some true)
    (xmNa : PySem.W.exmOne K (.ref CNa) (.ref CM) = some false)
    (xfNa : xfB K CNa = true)
    (n_nameNa : PySem.W.findIn K (.ref CNa) "name" = some none)
    (aXNe : PySem.W.findIn K (.ref CNe) "__init__" = some (some (.ref fXNe)))
    (lXNe : K.lookup fXNe = some ⟨ocXNe, odXNe, .func (PySem.W.fnOf "__init__" "InvalidEdge.__init__" (defArgs sEIe) (defBody sEIe) (defScope sEIe) .none kVXNe dcXNe pmXNe anXNe cdXNe ctXNe), slXNe⟩)
    (cXNe : PySem.W.codeIn K cdXNe "InvalidEdge.__init__" = true)
    (kXNe : PySem.W.keepIn K (.ref fXNe) = true)
    (tXNe : PySem.W.typeIn K (.ref fXNe) = some (.type "function"))
    (saNe : PySem.W.findIn K (.ref CNe) "__setattr__" = some (some (.builtin "object.__setattr__")))
    (exCNe : PySem.W.subIn K (.ref CNe) (.type "BaseException") = some true)
    (tyCNe : PySem.W.typeIn K (.ref CNe) = some (.type "type"))
    (kCNe : PySem.W.keepIn K (.ref CNe) = true)
    (clsNe : K.lookup CNe = some (excClassObj nmNe qNe CNe NNe bsNe bmNe true snNe subNe abNe colNe ddNe k0Ne k1Ne k2Ne k3Ne k5Ne "ValueError.__new__"))
    (rvNe : PySem.HandSPX.refsVE bmNe = true)
    (ncNe : PySem.W.findIn K (.ref CNe) "code" = some none)
    (x1Ne : PySem.W.exmOne K (.ref CNe) (.ref CT) = some true)
    (xmNe : PySem.W.exmOne K (.ref CNe) (.ref CM) = some false)
    (xfNe : xfB K CNe = true)
    (n_nameNe : PySem.W.findIn K (.ref CNe) "name" = some none)
    (hcode : PySem.W.codeHdIn K c PT = true)
    (noP : K.lookup PT = none)
    (ainit : PySem.W.findIn K (.ref C) "__init__" = some (some (.ref finit)))
    (iinit : PySem.W.isFn K (.ref finit) = true)
    (linit : K.lookup finit = some ⟨ocinit, odinit, .func (PySem.W.fnOf "__init__" "Web.__init__" (defArgs sWInit) (defBody sWInit) (defScope sWInit) .none kVinit dcinit pminit aninit cdinit ctinit), slinit⟩)
    (cinit : PySem.W.codeIn K cdinit "Web.__init__" = true)
    (kinit : PySem.W.keepIn K (.ref finit) = true)
    (anod : PySem.W.findIn K (.ref C) "nodes" = some (some (.ref fnod)))
    (inod : PySem.W.isFn K (.ref fnod) = true)
    (lnod : K.lookup fnod = some ⟨ocnod, odnod, .func (PySem.W.fnOf "nodes" "Web.nodes" (defArgs sNodes) (defBody sNodes) (defScope sNodes) .none kVnod dcnod pmnod annod cdnod ctnod), slnod⟩)
    (cnod : PySem.W.codeIn K cdnod "Web.nodes" = true)
    (knod : PySem.W.keepIn K (.ref fnod) = true)
    (aedg : PySem.W.findIn K (.ref C) "edges" = some (some (.ref fedg)))
    (iedg : PySem.W.isFn K (.ref fedg) = true)
    (ledg : K.lookup fedg = some ⟨ocedg, odedg, .func (PySem.W.fnOf "edges" "Web.edges" (defArgs sEdges) (defBody sEdges) (defScope sEdges) .none kVedg dcedg pmedg anedg cdedg ctedg), sledg⟩)
    (cedg : PySem.W.codeIn K cdedg "Web.edges" = true)
    (kedg : PySem.W.keepIn K (.ref fedg) = true)
    (pg : PySem.W.plainGet K C Str.empty = true)
    (hd : PySem.W.hasDictIn K C = true)
    (po : PySem.W.plainOver K C = true)
    (sa : PySem.W.findIn K (.ref C) "__setattr__" = some (some (.builtin "object.__setattr__")))
    (mk : PySem.W.makesIn K C = true)
    (kc : PySem.W.keepIn K (.ref C) = true)
    (nM : PySem.W.findIn K (.ref C) "marks" = some none)
    (nP : PySem.W.findIn K (.ref C) "pairs" = some none)
    (nS : PySem.W.findIn K (.ref C) "stars" = some none)
    (rd : PySem.W.readsIn K C (.type "type") = true)
    (ga : PySem.W.specialIn K (.ref C) "__getattribute__" = some (some (.builtin "type.__getattribute__")))
    (vN : PySem.W.findCls K (.ref C) (.type "type") "MAX_NODES" = some (.val (.int 12 tN)))
    (vA : PySem.W.nsIn K mainGlobals "EDGE_NAMES" = some (some (.str (Str.ofString "abcdefghijklmnopqrstuvwx") tA)))
    (z_isinstance : PySem.W.nsIn K mainGlobals "isinstance" = some none)
    (z_dict : PySem.W.nsIn K mainGlobals "dict" = some none)
    (z_list : PySem.W.nsIn K mainGlobals "list" = some none)
    (z_tuple : PySem.W.nsIn K mainGlobals "tuple" = some none)
    (z_bool : PySem.W.nsIn K mainGlobals "bool" = some none)
    (z_int : PySem.W.nsIn K mainGlobals "int" = some none)
    (z_str : PySem.W.nsIn K mainGlobals "str" = some none)
    (z_len : PySem.W.nsIn K mainGlobals "len" = some none)
    (z_all : PySem.W.nsIn K mainGlobals "all" = some none)
    (z_zip : PySem.W.nsIn K mainGlobals "zip" = some none)
    (z_sorted : PySem.W.nsIn K mainGlobals "sorted" = some none)
    (z_range : PySem.W.nsIn K mainGlobals "range" = some none)
    (z_min : PySem.W.nsIn K mainGlobals "min" = some none)
    (z_max : PySem.W.nsIn K mainGlobals "max" = some none)
    : LawAtS l w K CX0 10 63 "_law_script" mg fa h := by
  have e := hfa.symm.trans (PySem.W.mg_of X G alaw)
  cases e
  have FB := fun_mk (st := sBag) lB cB kB
  have bB := FB.binds (ps := ["_law_script"]) fun _ _ _ _ _ _ us hl => match us, hl with | [_], _ => rfl
  have FP := fun_mk (st := sPull) lP cP kP
  have bP := FP.binds (ps := ["_law_bag_here", "_law_many"]) fun _ _ _ _ _ _ us hl => match us, hl with | [_, _], _ => rfl
  have FO := fun_mk (st := sOf) lO cO kO
  have bO := FO.binds (ps := ["_law_bag_here", "_law_things"]) fun _ _ _ _ _ _ us hl => match us, hl with | [_, _], _ => rfl
  have FM := fun_mk (st := sMixed) lM cM kM
  have bM := FM.binds (ps := ["_law_bag_here", "_law_things"]) fun _ _ _ _ _ _ us hl => match us, hl with | [_, _], _ => rfl
  have FE := fun_mk (st := sSame) lE cE kE
  have bE := FE.binds (ps := ["_law_found", "_law_due"]) fun _ _ _ _ _ _ us hl => match us, hl with | [_, _], _ => rfl
  have FFi := fun_mk (st := sField) lFi cFi kFi
  have bFi := FFi.binds (ps := ["_law_e"]) fun _ _ _ _ _ _ us hl => match us, hl with | [_], _ => rfl
  have FTr := fun_mk (st := sTried) lTr cTr kTr
  have bTr := FTr.binds (ps := ["_law_ask"]) fun _ _ _ _ _ _ us hl => match us, hl with | [_], _ => rfl
  have FA := fun_mk (st := sLets) lA cA kA
  have bA := FA.binds (ps := []) fun _ _ _ _ _ _ us hl => match us, hl with | [], _ => rfl
  have FR := fun_mk (st := sRaw) lR cR kR
  have bR := FR.binds (ps := ["_law_bag_here", "_law_wide", "_law_many"]) fun _ _ _ _ _ _ us hl => match us, hl with | [_, _, _], _ => rfl
  have FW := fun_mk (st := sWF) lW cW kW
  have bW := FW.binds (ps := ["_law_marks", "_law_ends"]) fun _ _ _ _ _ _ us hl => match us, hl with | [_, _], _ => rfl
  have FIn := fun_mk (st := sIsNode) lIn cIn kIn
  have bIn := FIn.binds (ps := ["number"]) fun _ _ _ _ _ _ us hl => match us, hl with | [_], _ => rfl
  have FIm := fun_mk (st := sIsMark) lIm cIm kIm
  have bIm := FIm.binds (ps := ["number"]) fun _ _ _ _ _ _ us hl => match us, hl with | [_], _ => rfl
  have FIa := fun_mk (st := sIsName) lIa cIa kIa
  have bIa := FIa.binds (ps := ["text"]) fun _ _ _ _ _ _ us hl => match us, hl with | [_], _ => rfl
  have FJ := fun_mk (st := sJoins) lJ cJ kJ
  have bJ := FJ.binds (ps := ["marks", "pair"]) fun _ _ _ _ _ _ us hl => match us, hl with | [_, _], _ => rfl
  have FCm := fun_mk (st := sChkM) lCm cCm kCm
  have bCm := FCm.binds (ps := ["marks"]) fun _ _ _ _ _ _ us hl => match us, hl with | [_], _ => rfl
  have FCe := fun_mk (st := sChkE) lCe cCe kCe
  have bCe := FCe.binds (ps := ["marks", "edges"]) fun _ _ _ _ _ _ us hl => match us, hl with | [_, _], _ => rfl
  have FXNn := fun_mk (st := sEIn) lXNn cXNn kXNn
  have bXNn := FXNn.binds (ps := ["self", "node"]) fun _ _ _ _ _ _ us hl => match us, hl with | [_, _], _ => rfl
  have FXNm := fun_mk (st := sEIm) lXNm cXNm kXNm
  have bXNm := FXNm.binds (ps := ["self", "node"]) fun _ _ _ _ _ _ us hl => match us, hl with | [_, _], _ => rfl
  have FXNa := fun_mk (st := sEIa) lXNa cXNa kXNa
  have bXNa := FXNa.binds (ps := ["self", "name"]) fun _ _ _ _ _ _ us hl => match us, hl with | [_, _], _ => rfl
  have FXNe := fun_mk (st := sEIe) lXNe cXNe kXNe
  have bXNe := FXNe.binds (ps := ["self", "name"]) fun _ _ _ _ _ _ us hl => match us, hl with | [_, _], _ => rfl
  have Finit := fun_mk (st := sWInit) linit cinit kinit
  have binit := Finit.binds (ps := ["self", "marks", "edges"]) fun _ _ _ _ _ _ us hl => match us, hl with | [_, _, _], _ => rfl
  have Fnod := fun_mk (st := sNodes) lnod cnod knod
  have bnod := Fnod.binds (ps := ["self"]) fun _ _ _ _ _ _ us hl => match us, hl with | [_], _ => rfl
  have Fedg := fun_mk (st := sEdges) ledg cedg kedg
  have bedg := Fedg.binds (ps := ["self"]) fun _ _ _ _ _ _ us hl => match us, hl with | [_], _ => rfl
  have gB := PySem.W.mg_of X G aB
  have gP := PySem.W.mg_of X G aP
  have gO := PySem.W.mg_of X G aO
  have gM := PySem.W.mg_of X G aM
  have gE := PySem.W.mg_of X G aE
  have gFi := PySem.W.mg_of X G aFi
  have gTr := PySem.W.mg_of X G aTr
  have gA := PySem.W.mg_of X G aA
  have gR := PySem.W.mg_of X G aR
  have gW := PySem.W.mg_of X G aW
  have gIn := PySem.W.mg_of X G aIn
  have gIm := PySem.W.mg_of X G aIm
  have gIa := PySem.W.mg_of X G aIa
  have gJ := PySem.W.mg_of X G aJ
  have gCm := PySem.W.mg_of X G aCm
  have gCe := PySem.W.mg_of X G aCe
  have gNn := PySem.W.mg_of X G aNn
  have gNm := PySem.W.mg_of X G aNm
  have gNa := PySem.W.mg_of X G aNa
  have gNe := PySem.W.mg_of X G aNe
  have gCT := PySem.W.mg_of X G aCT
  have gCM := PySem.W.mg_of X G aCM
  have m_isinstance := PySem.W.mg_none_of X G z_isinstance
  have m_dict := PySem.W.mg_none_of X G z_dict
  have m_list := PySem.W.mg_none_of X G z_list
  have m_tuple := PySem.W.mg_none_of X G z_tuple
  have m_bool := PySem.W.mg_none_of X G z_bool
  have m_int := PySem.W.mg_none_of X G z_int
  have m_str := PySem.W.mg_none_of X G z_str
  have m_len := PySem.W.mg_none_of X G z_len
  have m_all := PySem.W.mg_none_of X G z_all
  have m_zip := PySem.W.mg_none_of X G z_zip
  have m_sorted := PySem.W.mg_none_of X G z_sorted
  have m_range := PySem.W.mg_none_of X G z_range
  have m_min := PySem.W.mg_none_of X G z_min
  have m_max := PySem.W.mg_none_of X G z_max
  have gWeb := PySem.W.mg_of X G aC0
  have T : ChkT K mg C (.type "type") := ⟨gWeb, ⟨rd, ga⟩, ⟨_, ⟨vN, ⟨_, rfl⟩⟩⟩, ⟨_, PySem.W.mg_of X G vA⟩, m_sorted, m_len⟩
  have U : WebT K mg C := ⟨⟨pg, hd, po, sa⟩, nM, nP, nS, m_tuple⟩
  have RT : RawT mg := ⟨m_sorted, m_list, m_range, m_dict, m_min, m_max, m_len⟩
  have M : Mk K C finit := ⟨mk, ainit, iinit, kc⟩
  have TNn : OexC K CNn := ⟨⟨_, _, _, _, _, _, _, _, _, _, _, _, _, _, _, clsNn, rvNn⟩, saNn, exCNn, tyCNn, kCNn⟩
  have TNm : OexC K CNm := ⟨⟨_, _, _, _, _, _, _, _, _, _, _, _, _, _, _, clsNm, rvNm⟩, saNm, exCNm, tyCNm, kCNm⟩
  have TNa : OexC K CNa := ⟨⟨_, _, _, _, _, _, _, _, _, _, _, _, _, _, _, clsNa, rvNa⟩, saNa, exCNa, tyCNa, kCNa⟩
  have TNe : OexC K CNe := ⟨⟨_, _, _, _, _, _, _, _, _, _, _, _, _, _, _, clsNe, rvNe⟩, saNe, exCNe, tyCNe, kCNe⟩
  refine ⟨PySem.W.fnOf "law" "law" (defArgs sLaw) (defBody sLaw) (defScope sLaw) .none kVlaw dclaw pmlaw anlaw (.ref c) ctlaw, [(c, PT)], spLawT K PT, ?_, ?_, ?_, fun s v => .of_eq rfl, ?_, fun base _ _ tabs => ?_⟩
  · intro p hp
    rw [List.mem_singleton.mp hp]
    exact empty
  · intro p hp
    rw [List.mem_singleton.mp hp]
    exact noP
  · intro p hp
    rw [List.mem_singleton.mp hp]
    exact PySem.W.codeHd_of_K X hcode
  · intro H a ns hl _ hT hS
    exact ⟨a, ns, rfl, hS, hl, hT (c, PT) List.mem_cons_self, fun _ => rfl⟩
  have TB : TabB base mg c PT := tabs (c, PT) List.mem_cons_self
  clear tabs empty hcode noP
  have ST : SameT mg := ⟨m_isinstance, m_dict, m_list, m_tuple, m_bool, m_int, m_str, m_len, m_all, m_zip⟩
  have GP := ok_pull (P := l.prog) (w := w) (base := base) FP m_len
  have GO := ok_of (P := l.prog) (w := w) (base := base) FO FP bP gP m_len
  have GM := ok_mixed (P := l.prog) (w := w) (base := base) FM FP bP gP m_len m_list m_range
  have GR := ok_raw (P := l.prog) (w := w) (base := base) FR FP bP gP FM bM gM FA bA gA RT
  have GI := ok_winite (P := l.prog) (w := w) (base := base) Finit (ok_chkme FCm FIn bIn gIn FIm bIm gIm T FXNn bXNn TNn aXNn tXNn ncNn n_nodeNn gNn FXNm bXNm TNm aXNm tXNm ncNm n_nodeNm gNm) FCm bCm gCm (ok_chkee FCe FIa bIa gIa FJ bJ gJ T FXNa bXNa TNa aXNa tXNa ncNa n_nameNa gNa FXNe bXNe TNe aXNe tXNe ncNe n_nameNe gNe) FCe bCe gCe T U
  have GE := ok_same (P := l.prog) (w := w) (base := base) FE ST gE bE 2
  have GW := ok_wfault (P := l.prog) (w := w) (base := base) FW FA bA gA m_sorted m_list
  exact ok_law (fd := PySem.W.fnOf "law" "law" (defArgs sLaw) (defBody sLaw) (defScope sLaw) .none kVlaw dclaw pmlaw anlaw (.ref c) ctlaw) llaw claw (ok_bag FB m_list) FB bB gB GP FP bP gP GO FO bO gO GE FE bE gE GR FR bR gR GW FW bW gW
    M GI binit (ok_nodes Fnod U m_list) bnod ⟨anod, inod, knod⟩ (ok_edges Fedg U m_list) bedg ⟨aedg, iedg, kedg⟩
    T U gTr kTr lTr cTr bTr lFi cFi bFi gFi kFi gCT gCM x1Nn (xfB_ok xfNn) ncNn n_nodeNn x1Nm (xfB_ok xfNm) ncNm n_nodeNm x1Na (xfB_ok xfNa) ncNa n_nameNa x1Ne (xfB_ok xfNe) ncNe n_nameNe TB m_range m_dict


end T02


open PySem PySem.W PyProof.Rows in
set_option maxRecDepth 100000 in
set_option maxHeartbeats 0 in
theorem PySem.Challenge.cw_threadmark_k02_invalid_webs_holds : PySem.Challenge.rw_threadmark_k02_invalid_webs.Holds := by
  w_on; o_law; k_head; (case hw => w_witness2)
  k_fill
  refine LamX.walk_ofTs (l := PySem.Challenge.rw_threadmark_k02_invalid_webs) (n := 63) (k := 10) (x := "_law_script") (CX := fun _ => L2.CX0) rfl (by decide) rfl ⟨rfl, by decide, by decide⟩ (fun w h Y => PySem.W.km_in_of Y) ?F (fun _ _ _ _ _ h => h)
  case F =>
    intro w mg fa h Y KX G hmg
    have tb := PySem.W.km_tabs_of Y 497 (by decide)
    have hm2 : mg "law" = some (.ref fa) := hmg
    clear Y hmg
    refine' T02.all_mk 497 KX G hm2 tb ?aNn ?aNm ?aNa ?aNe ?aCT ?aCM ?aC0 ?aB ?lB ?cB ?kB ?aP ?lP ?cP ?kP ?aO ?lO ?cO ?kO ?aM ?lM ?cM ?kM ?aE ?lE ?cE ?kE ?aFi ?lFi ?cFi ?kFi ?aTr ?lTr ?cTr ?kTr ?aA ?lA ?cA ?kA ?aR ?lR ?cR ?kR ?aW ?lW ?cW ?kW ?aIn ?lIn ?cIn ?kIn ?aIm ?lIm ?cIm ?kIm ?aIa ?lIa ?cIa ?kIa ?aJ ?lJ ?cJ ?kJ ?aCm ?lCm ?cCm ?kCm ?aCe ?lCe ?cCe ?kCe ?alaw ?llaw ?claw ?klaw ?aXNn ?lXNn ?cXNn ?kXNn ?tXNn ?saNn ?exCNn ?tyCNn ?kCNn ?clsNn ?rvNn ?ncNn ?x1Nn ?xmNn ?xfNn ?n_nodeNn ?aXNm ?lXNm ?cXNm ?kXNm ?tXNm ?saNm ?exCNm ?tyCNm ?kCNm ?clsNm ?rvNm ?ncNm ?x1Nm ?xmNm ?xfNm ?n_nodeNm ?aXNa ?lXNa ?cXNa ?kXNa ?tXNa ?saNa ?exCNa ?tyCNa ?kCNa ?clsNa ?rvNa ?ncNa ?x1Na ?xmNa ?xfNa ?n_nameNa ?aXNe ?lXNe ?cXNe ?kXNe ?tXNe ?saNe ?exCNe ?tyCNe ?kCNe ?clsNe ?rvNe ?ncNe ?x1Ne ?xmNe ?xfNe ?n_nameNe ?hcode ?noP ?ainit ?iinit ?linit ?cinit ?kinit ?anod ?inod ?lnod ?cnod ?knod ?aedg ?iedg ?ledg ?cedg ?kedg ?pg ?hd ?po ?sa ?mk ?kc ?nM ?nP ?nS ?rd ?ga ?vN ?vA ?z_isinstance ?z_dict ?z_list ?z_tuple ?z_bool ?z_int ?z_str ?z_len ?z_all ?z_zip ?z_sorted ?z_range ?z_min ?z_max
    (case aNn => k_is)
    (case aNm => k_is)
    (case aNa => k_is)
    (case aNe => k_is)
    (case aCT => k_is)
    (case aCM => k_is)
    (case aC0 => k_is)
    (case aB => k_is)
    (case lB => k_is)
    (case cB => k_is)
    (case kB => k_is)
    (case aP => k_is)
    (case lP => k_is)
    (case cP => k_is)
    (case kP => k_is)
    (case aO => k_is)
    (case lO => k_is)
    (case cO => k_is)
    (case kO => k_is)
    (case aM => k_is)
    (case lM => k_is)
    (case cM => k_is)
    (case kM => k_is)
    (case aE => k_is)
    (case lE => k_is)
    (case cE => k_is)
    (case kE => k_is)
    (case aFi => k_is)
    (case lFi => k_is)
    (case cFi => k_is)
    (case kFi => k_is)
    (case aTr => k_is)
    (case lTr => k_is)
    (case cTr => k_is)
    (case kTr => k_is)
    (case aA => k_is)
    (case lA => k_is)
    (case cA => k_is)
    (case kA => k_is)
    (case aR => k_is)
    (case lR => k_is)
    (case cR => k_is)
    (case kR => k_is)
    (case aW => k_is)
    (case lW => k_is)
    (case cW => k_is)
    (case kW => k_is)
    (case aIn => k_is)
    (case lIn => k_is)
    (case cIn => k_is)
    (case kIn => k_is)
    (case aIm => k_is)
    (case lIm => k_is)
    (case cIm => k_is)
    (case kIm => k_is)
    (case aIa => k_is)
    (case lIa => k_is)
    (case cIa => k_is)
    (case kIa => k_is)
    (case aJ => k_is)
    (case lJ => k_is)
    (case cJ => k_is)
    (case kJ => k_is)
    (case aCm => k_is)
    (case lCm => k_is)
    (case cCm => k_is)
    (case kCm => k_is)
    (case aCe => k_is)
    (case lCe => k_is)
    (case cCe => k_is)
    (case kCe => k_is)
    (case alaw => k_is)
    (case llaw => k_is)
    (case claw => k_is)
    (case klaw => k_is)
    (case aXNn => k_is)
    (case lXNn => k_is)
    (case cXNn => k_is)
    (case kXNn => k_is)
    (case tXNn => k_is)
    (case saNn => k_is)
    (case exCNn => k_is)
    (case tyCNn => k_is)
    (case kCNn => k_is)
    (case clsNn => k_is)
    (case rvNn => first | k_is | rfl | kernel_rfl | decide +kernel)
    (case ncNn => k_is)
    (case x1Nn => first | k_is | rfl | kernel_rfl | decide +kernel)
    (case xmNn => first | k_is | rfl | kernel_rfl | decide +kernel)
    (case xfNn => first | k_is | rfl | kernel_rfl | decide +kernel)
    (case n_nodeNn => k_is)
    (case aXNm => k_is)
    (case lXNm => k_is)
    (case cXNm => k_is)
    (case kXNm => k_is)
    (case tXNm => k_is)
    (case saNm => k_is)
    (case exCNm => k_is)
    (case tyCNm => k_is)
    (case kCNm => k_is)
    (case clsNm => k_is)
    (case rvNm => first | k_is | rfl | kernel_rfl | decide +kernel)
    (case ncNm => k_is)
    (case x1Nm => first | k_is | rfl | kernel_rfl | decide +kernel)
    (case xmNm => first | k_is | rfl | kernel_rfl | decide +kernel)
    (case xfNm => first | k_is | rfl | kernel_rfl | decide +kernel)
    (case n_nodeNm => k_is)
    (case aXNa => k_is)
    (case lXNa => k_is)
    (case cXNa => k_is)
    (case kXNa => k_is)
    (case tXNa => k_is)
    (case saNa => k_is)
    (case exCNa => k_is)
    (case tyCNa => k_is)
    (case kCNa => k_is)
    (case clsNa => k_is)
    (case rvNa => first | k_is | rfl | kernel_rfl | decide +kernel)
    (case ncNa => k_is)
    (case x1Na => first | k_is | rfl | kernel_rfl | decide +kernel)
    (case xmNa => first | k_is | rfl | kernel_rfl | decide +kernel)
    (case xfNa => first | k_is | rfl | kernel_rfl | decide +kernel)
    (case n_nameNa => k_is)
    (case aXNe => k_is)
    (case lXNe => k_is)
    (case cXNe => k_is)
    (case kXNe => k_is)
    (case tXNe => k_is)
    (case saNe => k_is)
    (case exCNe => k_is)
    (case tyCNe => k_is)
    (case kCNe => k_is)
    (case clsNe => k_is)
    (case rvNe => first | k_is | rfl | kernel_rfl | decide +kernel)
    (case ncNe => k_is)
    (case x1Ne => first | k_is | rfl | kernel_rfl | decide +kernel)
    (case xmNe => first | k_is | rfl | kernel_rfl | decide +kernel)
    (case xfNe => first | k_is | rfl | kernel_rfl | decide +kernel)
    (case n_nameNe => k_is)
    (case hcode => first | k_is | rfl | kernel_rfl | decide +kernel)
    (case noP => first | k_is | rfl | kernel_rfl | decide +kernel)
    (case ainit => k_is)
    (case iinit => k_is)
    (case linit => k_is)
    (case cinit => k_is)
    (case kinit => k_is)
    (case anod => k_is)
    (case inod => k_is)
    (case lnod => k_is)
    (case cnod => k_is)
    (case knod => k_is)
    (case aedg => k_is)
    (case iedg => k_is)
    (case ledg => k_is)
    (case cedg => k_is)
    (case kedg => k_is)
    (case pg => k_is)
    (case hd => k_is)
    (case po => k_is)
    (case sa => k_is)
    (case mk => k_is)
    (case kc => k_is)
    (case nM => k_is)
    (case nP => k_is)
    (case nS => k_is)
    (case rd => k_is)
    (case ga => k_is)
    (case vN => k_is)
    (case vA => k_is)
    (case z_isinstance => k_is)
    (case z_dict => k_is)
    (case z_list => k_is)
    (case z_tuple => k_is)
    (case z_bool => k_is)
    (case z_int => k_is)
    (case z_str => k_is)
    (case z_len => k_is)
    (case z_all => k_is)
    (case z_zip => k_is)
    (case z_sorted => k_is)
    (case z_range => k_is)
    (case z_min => k_is)
    (case z_max => k_is)

