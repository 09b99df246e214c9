import PyProof.Rows.All
import Wide.All
import OpenK.AllK
import Wide.FinOn
import HandS.ForMost
import HandS.Flow
import HandS.Style
import HandS.StrMore
import HandS.IsInst
import HandS.Zip
import HandS.Conv
import HandS.Walk
import HandS.WideBits
import HandS.More
import HandS.SetBool
import HandS.Strs
import HandS.SetTxt0
import PyProof.Rows.SetFrom
import KE.GoesMore
import PyProof.FactsAll.subtypes_4
import HandS.SetFor
import PyProof.Rows.SortShellAny
import KE.GoesNew
import KE.GoesEnum
import HandS.Defaults
import PySem.Challenge.RW_threadmark_k40_equations_modulo_two
set_option Elab.async false
set_option linter.all false
set_option maxRecDepth 100000
/-! The part that every law of this program shares: heaps, the bag, a few rules. -/
namespace Tm
open PySem PySem.Spec PyProof.Rows L2

/-! ### heaps: all but the object at b is as it was -/
def Kp (b : Addr) (H H' : Hp) : Prop := ∀ p o, p ≠ b → H p = some o → H' p = some o
theorem Kp.refl (b : Addr) (H : Hp) : Kp b H H := fun _ _ _ h => h
theorem Kp.trans {b : Addr} {H H1 H2 : Hp} (x : Kp b H H1) (y : Kp b H1 H2) : Kp b H H2 := fun p o n h => y p o n (x p o n h)
theorem Kp.of_same {b : Addr} {H H' : Hp} (s : Same H H') : Kp b H H' := fun p o _ h => s p o h
theorem Kp.set {b : Addr} {H : Hp} {o : HO} : Kp b H (upd H b o) := fun p u n h => by rw [upd_ne n]; exact h
theorem Kp.new {b q : Addr} {H : Hp} {o : HO} (h : H q = none) : Kp b H (upd H q o) := fun p u _ e => by
  rw [upd_ne (ne_of_none e h)]; exact e
/-- a store to an object that was not there at the start -/
theorem Kp.put {b q : Addr} {H H' : Hp} {o : HO} (k : Kp b H H') (h : H q = none) : Kp b H (upd H' q o) := fun p u n e => by
  rw [upd_ne (ne_of_none e h)]; exact k p u n e
theorem same_upd {H : Hp} {p : Addr} {o : HO} (h : H p = none) : Same H (upd H p o) := fun b x e => by
  rw [upd_ne (ne_of_none e h)]; exact e
theorem same_put {q : Addr} {H H' : Hp} {o : HO} (k : Same H H') (h : H q = none) : Same H (upd H' q o) := fun p u e => by
  rw [upd_ne (ne_of_none e h)]; exact k p u e
theorem Kp.free {b : Addr} {H H' : Hp} (e : Kp b H H') {l : Addr} (hb : ∃ o, H' b = some o) (h : H' l = none) : H l = none := by
  obtain ⟨o, hb⟩ := hb
  have n : l ≠ b := fun z => by rw [z, hb] at h; cases h
  cases q : H l with
  | none => rfl
  | some o => rw [e l o n q] at h; cases h
theorem Kp.seq {K : PySem.W.Frag} {b : Addr} {H H' : Hp} {a : Addr} {xs : List V} (e : Kp b H H') (n : a ≠ b) (h : SqL K H a xs) : SqL K H' a xs :=
  h.imp (fun seen => seen.imp (e a _ n) (fun ⟨ob, at_a⟩ => ⟨ob, e a _ n at_a⟩)) id

/-! ### the bag of the draws -/
def Bag (H : Hp) (b l : Addr) : Prop := ∃ (xs : List Int) (i n s : Int), H b = some (.lst [.ref l, .int i, .int n, .int s]) ∧ H l = some (.lst (xs.map V.int)) ∧ 0 ≤ i ∧ 0 ≤ n ∧ 0 ≤ s ∧ s < 2147483549
theorem bag_ne {H : Hp} {b l : Addr} {xs : List Int} {u v w : V} {a : Addr} (h : H b = some (.lst [.ref a, u, v, w])) (hl : H l = some (.lst (xs.map V.int))) : l ≠ b := ne_of hl h (by
  intro e
  have e2 := HO.lst.inj e
  cases xs with
  | nil => cases e2
  | cons x r => cases e2)
theorem Bag.hb {H : Hp} {b l : Addr} (B : Bag H b l) : ∃ o, H b = some o := by
  obtain ⟨xs, i, n, s, h, _⟩ := B
  exact ⟨_, h⟩
theorem Bag.hl {H : Hp} {b l : Addr} (B : Bag H b l) : ∃ o, H l = some o := by
  obtain ⟨xs, i, n, s, _, h, _⟩ := B
  exact ⟨_, h⟩
theorem Bag.nb {H : Hp} {b l q : Addr} (B : Bag H b l) (h : H q = none) : q ≠ b := fun e => by
  obtain ⟨o, hb⟩ := B.hb
  rw [e, hb] at h; cases h
theorem Bag.nl {H : Hp} {b l q : Addr} (B : Bag H b l) (h : H q = none) : q ≠ l := fun e => by
  obtain ⟨o, hb⟩ := B.hl
  rw [e, hb] at h; cases h
/-- a store elsewhere -/
theorem Bag.put {H : Hp} {b l q : Addr} {o : HO} (B : Bag H b l) (n1 : q ≠ b) (n2 : q ≠ l) : Bag (upd H q o) b l := by
  obtain ⟨xs, i, n, s, hb, hl, r⟩ := B
  exact ⟨xs, i, n, s, by rw [upd_ne n1.symm]; exact hb, by rw [upd_ne n2.symm]; exact hl, r⟩
theorem Bag.new {H : Hp} {b l q : Addr} {o : HO} (B : Bag H b l) (h : H q = none) : Bag (upd H q o) b l := B.put (B.nb h) (B.nl h)
theorem Bag.same {H H' : Hp} {b l : Addr} (B : Bag H b l) (k : Same H H') : Bag H' b l := by
  obtain ⟨xs, i, n, s, hb, hl, r⟩ := B
  exact ⟨xs, i, n, s, k _ _ hb, k _ _ hl, r⟩

/-! ### list(text) -/
def sig (c : Nat) : V := .str ⟨#[c]⟩
/-- two lists, place by place -/
theorem placewise {α β : Type} {R : α → β → Prop} : ∀ (as : List α) (bs : List β), as.length = bs.length → (∀ (j : Nat) (a : α) (b : β), as[j]? = some a → bs[j]? = some b → R a b) → Paired R as bs
  | [], [], _, _ => .nil
  | a :: as, b :: bs, hl, h => .cons (h 0 a b rfl rfl) (placewise as bs (Nat.succ.inj hl) fun j x y hx hy => h (j + 1) x y hx hy)
/-- the cells that the machine drew out of a text are its signs -/
theorem signs_drawn (z : Str) (cells : Array Value) (drawn : ItemsOf (SignAt z) cells z.cps.size) : Vals (z.cps.toList.map sig) cells.toList := by
  apply placewise
  · simp [drawn.1]
  · intro j v u hv hu
    rw [Array.getElem?_toList] at hu
    rcases drawn.2 j u hu with ⟨code, tok, there, rfl⟩
    have same : v = sig code := by
      rw [List.getElem?_map, Array.getElem?_toList, there] at hv
      exact (Option.some.inj hv).symm
    rw [same]
    exact ⟨tok, rfl⟩
theorem call_listS {X : Cx} (calm : X.calm = true) : CallR X (.type "list") (fun given H Q => ∃ z : Str, given = [.str z] ∧ z.length ≤ sizeLine ∧ ∀ l, H l = none → Q (.ref l) (upd H l (.lst (z.cps.toList.map sig)))) :=
  fun pins s σ H given held Q inv rel ask => by
    rcases ask with ⟨z, rfl, short, hand⟩
    match held, rel with
    | [_], .cons ⟨tok, rfl⟩ .nil =>
      apply PySem.call_list_str (inv.ok.hd calm) z tok (hn := short)
      intro heap toks cells ver kept made drawn
      have long : (z.cps.toList.map sig).length ≤ sizeLine := by
        rw [List.length_map, Array.length_toList]
        exact short
      have stands : Inv X pins σ (upd H s.heap.objs.size (.lst (z.cps.toList.map sig))) { s with heap := heap, toks := toks } :=
        inv.laid kept (Nat.le_refl _) ⟨long, cells.toList, ver, signs_drawn z cells drawn, made⟩
      exact ⟨V.ref s.heap.objs.size, _, stands, rfl, hand _ (inv.hok.fresh (Nat.le_refl _))⟩

/-! ### small things -/
theorem cut {t1 t2 : TS} {D : Ends} {σ : L2.St} {H : Hp} (Pv : L2.St → Hp → Prop) (h2 : ∀ σ' H', Pv σ' H' → t2 D σ' H') (h1 : ∀ N : L2.St → Hp → Prop, (∀ σ' H', Pv σ' H' → N σ' H') → t1 { D with nx := N } σ H) : tSeq t1 t2 D σ H := h1 _ h2
theorem cut_ints (ns : List Int) (lo hi : Option Int) : ∃ ms : List Int, cutV (ns.map V.int) lo hi = ms.map V.int := by
  unfold cutV
  rw [← List.map_drop, ← List.map_take]
  exact ⟨_, rfl⟩
theorem cut_int {ns : List Int} {lo hi : Option Int} {i : Nat} {y : V} (h : (cutV (ns.map V.int) lo hi)[i]? = some y) : ∃ u, y = V.int u := by
  obtain ⟨ms, e⟩ := cut_ints ns lo hi
  rw [e, List.getElem?_map] at h
  cases e2 : ms[i]? with
  | none => rw [e2] at h; cases h
  | some u => rw [e2] at h; exact ⟨u, (Option.some.inj h).symm⟩

/-! ### what the helpers promise -/
def spBag (K : PySem.W.Frag) : Sp := fun vs H Q _ => ∃ (a : Addr) (ns : List Int), vs = [.ref a] ∧ SqL K H a (ns.map V.int) ∧ ∀ H' b l, Same H H' → H b = none → H l = none → Bag H' b l → Q (.ref b) H'
def spPull : Sp := fun vs H Q _ => ∃ (b l : Addr) (m : Int), vs = [.ref b, .int m] ∧ Bag H b l ∧ 0 < m ∧ m < 1073741824 ∧ ∀ H' (d : Int), Kp b H H' → Bag H' b l → 0 ≤ d → d < m → Q (.int d) H'

/-! ### equal data -/
inductive Eqv (H : Hp) : Nat → V → V → Prop where
  | non (n : Nat) : Eqv H n .non .non
  | bl (n : Nat) (b : Bool) : Eqv H n (.bl b) (.bl b)
  | int (n : Nat) (i : Int) : Eqv H n (.int i) (.int i)
  | str (n : Nat) (z : Str) : Eqv H n (.str z) (.str z)
  | lst {n : Nat} {p q : Addr} {xs ys : List V} (hp : H p = some (.lst xs)) (hq : H q = some (.lst ys)) (hl : xs.length = ys.length) (hz : xs.length ≤ 10000) (h : ∀ (i : Nat) (x y : V), xs[i]? = some x → ys[i]? = some y → Eqv H n x y) : Eqv H (n + 1) (.ref p) (.ref q)
  | tup {n : Nat} {p q : Addr} {xs ys : List V} (hp : H p = some (.tup xs)) (hq : H q = some (.tup ys)) (hl : xs.length = ys.length) (hz : xs.length ≤ 10000) (h : ∀ (i : Nat) (x y : V), xs[i]? = some x → ys[i]? = some y → Eqv H n x y) : Eqv H (n + 1) (.ref p) (.ref q)
theorem Eqv.same {H H' : Hp} (s : Same H H') {n : Nat} {x y : V} (e : Eqv H n x y) : Eqv H' n x y := by
  induction e with
  | non n => exact .non n
  | bl n b => exact .bl n b
  | int n i => exact .int n i
  | str n z => exact .str n z
  | lst hp hq hl hz h ih => exact .lst (s _ _ hp) (s _ _ hq) hl hz ih
  | tup hp hq hl hz h ih => exact .tup (s _ _ hp) (s _ _ hq) hl hz ih
def spSame (n : Nat) : Sp := fun vs H Q _ => ∃ (x y : V), vs = [x, y] ∧ Eqv H n x y ∧ ∀ H', Same H H' → Q (.bl true) H'
/-- the type of a flat value -/
theorem kit_list {K : PySem.W.Frag} {a : String} {r : Bool} (h : kitB a "list" = some r) (h2 : r = false → kitB a "tuple" = some false) : PySem.W.kitAny K (.type a) [.type "list", .type "tuple"] = some r := by
  refine kitAny_cons (kit_ty h) (fun e => ?_) (fun e => e)
  subst e
  exact kitAny_cons (kit_ty (h2 rfl)) (fun _ => kitAny_nil) (fun e => by cases e)
theorem kit_tup {K : PySem.W.Frag} : PySem.W.kitAny K (.type "tuple") [.type "list", .type "tuple"] = some true :=
  kitAny_cons (b := false) (kit_ty (by decide +kernel)) (fun _ => kitAny_cons (b := true) (kit_ty (by decide +kernel)) (fun e => by cases e) (fun _ => rfl)) (fun e => by cases e)
/-- zip of two tuples, walked to the end of the shorter -/
theorem zip_tuples {K : PySem.W.Frag} {a b : Addr} {xs ys : List V} (hl : xs.length = ys.length) : Walk (RZ.ItzT K a b) xs.length (fun H => SqT K H a xs ∧ SqT K H b ys) (YPair (fun i => xs[i]?) (fun i => ys[i]?)) where
  goes := fun i H lt both => ⟨xs, ys, xs[i], ys[i]'(by omega), both.1, both.2, List.getElem?_eq_getElem lt, List.getElem?_eq_getElem (by omega)⟩
  stops := fun H both => ⟨xs, ys, both.1, both.2, .inl (Nat.le_refl _)⟩
  yields := fun i H v H' _ both ⟨T, x, y, e, new, after, at_x, at_y⟩ => ⟨T, x, y, e, new, after, at_x xs both.1, at_y ys both.2⟩
def spOf (K : PySem.W.Frag) : Sp := fun vs H Q _ => ∃ (b l : Addr) (t : V) (xs : List V), vs = [.ref b, t] ∧ Bag H b l ∧
  ((∃ a, t = .ref a ∧ a ≠ b ∧ SqL K H a xs) ∨ (∃ z : Str, t = .str z ∧ z.length ≤ sizeLine ∧ xs = z.cps.toList.map sig)) ∧ 0 < xs.length ∧ xs.length < 1073741824 ∧ ∀ H' x, Kp b H H' → Bag H' b l → x ∈ xs → Q x H'
def spMixed (K : PySem.W.Frag) : Sp := fun vs H Q _ => ∃ (b l a : Addr) (xs : List V), vs = [.ref b, .ref a] ∧ Bag H b l ∧ a ≠ b ∧ SqL K H a xs ∧ xs.length ≤ 1000 ∧
  ∀ H' p ys, Kp b H H' → Bag H' b l → H p = none → H' p = some (.lst ys) → ys.Perm xs → Q (.ref p) H'
theorem erasePm {α : Type} : ∀ (l : List α) (i : Nat) (h : i < l.length), (l[i] :: l.eraseIdx i).Perm l
  | [], i, h => absurd h (Nat.not_lt_zero _)
  | x :: r, 0, h => .refl _
  | x :: r, i + 1, h => by
    have hr : i < r.length := Nat.lt_of_succ_lt_succ h
    show (r[i] :: x :: r.eraseIdx i).Perm (x :: r)
    exact (List.Perm.swap x _ _).trans ((erasePm r i hr).cons x)
theorem ifF {c : Bool} {A B : Prop} (h : c = false) (hb : B) : if c = true then A else B := by rw [h]; exact iteF hb
theorem ifT {c : Bool} {A B : Prop} (h : c = true) (ha : A) : if c = true then A else B := by rw [h]; exact iteT ha




/-! ### texts as lists of signs -/
def txt (cs : List Nat) : Str := ⟨cs.toArray⟩
theorem txt_len (cs : List Nat) : (txt cs).length = cs.length := by show cs.toArray.size = _; simp
theorem txt_cps (cs : List Nat) : (txt cs).cps.toList = cs := by show cs.toArray.toList = _; simp
theorem txt_of (z : Str) : txt z.cps.toList = z := by show (⟨z.cps.toList.toArray⟩ : Str) = z; simp
theorem txt_app (a b : List Nat) : txt a ++ txt b = txt (a ++ b) := by
  show (⟨a.toArray ++ b.toArray⟩ : Str) = ⟨(a ++ b).toArray⟩
  simp
theorem txt_inj {a b : List Nat} (h : txt a = txt b) : a = b := by rw [← txt_cps a, ← txt_cps b, h]
theorem txt_minus : Str.ofString "-" = txt [45] := by decide +kernel
theorem txt_empty : Str.ofString "" = txt [] := by decide +kernel
theorem sig_txt (c : Nat) : sig c = .str (txt [c]) := rfl
def lettersL : List Nat → List Nat
  | [] => []
  | c :: r => if c = 45 then r else c :: r
def signL : List Nat → Nat
  | [] => 0
  | c :: r => if c = 45 then 1 else 0
def signedL (t : Int) (cs : List Nat) : List Nat := if t % 2 = 1 then 45 :: cs else cs
theorem letters_len (ts : List Nat) : (lettersL ts).length + signL ts = ts.length := by
  cases ts with
  | nil => rfl
  | cons c r =>
    show (if c = 45 then r else c :: r).length + (if c = 45 then 1 else 0) = r.length + 1
    by_cases h : c = 45
    · rw [if_pos h, if_pos h]
    · rw [if_neg h, if_neg h, List.length_cons]
theorem remove_minus (ts : List Nat) : Txt.removeprefix (txt ts) (Str.ofString "-") = txt (lettersL ts) := by
  rw [txt_minus]
  unfold Txt.removeprefix
  cases ts with
  | nil => rfl
  | cons c r =>
    have e : Builtin.Str.subAt (txt (c :: r)) (txt [45]) 0 = decide (c = 45) := by
      unfold Builtin.Str.subAt
      show ((c :: r).toArray.extract 0 (0 + 1) == #[45]) = _
      have e2 : (c :: r).toArray.extract 0 (0 + 1) = #[c] := by simp
      rw [e2]
      by_cases h : c = 45
      · subst h; rfl
      · rw [decide_eq_false h]
        simp [h]
    rw [e]
    show _ = txt (if c = 45 then r else c :: r)
    by_cases h : c = 45
    · rw [decide_eq_true h, if_pos rfl, if_pos h]
      unfold Txt.affix
      have e3 : ((txt (c :: r)).length - (txt [45]).length == (txt (c :: r)).length) = false := by
        rw [txt_len, txt_len]
        simp
      show (if ((txt (c :: r)).length - (txt [45]).length == (txt (c :: r)).length) = true then _ else _) = _
      rw [e3, if_neg Bool.false_ne_true]
      show (⟨(c :: r).toArray.extract 1 (c :: r).toArray.size⟩ : Str) = ⟨r.toArray⟩
      simp
    · rw [decide_eq_false h, if_neg Bool.false_ne_true, if_neg h]
      rfl
theorem join_txt : ∀ (xs : List (List Nat)), Txt.join (Str.ofString "") (xs.map txt) = txt xs.flatten := by
  intro xs
  show Builtin.Str.glued _ _ = _
  rw [StrLaws.glued_eq_join, txt_empty]
  induction xs with
  | nil => rfl
  | cons x r ih =>
    cases r with
    | nil => show txt x = txt (x ++ []); rw [List.append_nil]
    | cons y r =>
      show txt x ++ txt [] ++ Str.join (txt []) ((y :: r).map txt) = _
      rw [ih, txt_app, txt_app, List.append_nil]
      rfl
theorem flat_ones (cs : List Nat) : (cs.map fun c => [c]).flatten = cs := by
  induction cs with
  | nil => rfl
  | cons c r ih => show c :: (r.map fun c => [c]).flatten = _; rw [ih]
theorem join_sigs (cs : List Nat) : Txt.join (Str.ofString "") (cs.map fun c => txt [c]) = txt cs := by
  have e : (cs.map fun c => txt [c]) = (cs.map fun c => [c]).map txt := by rw [List.map_map]; rfl
  rw [e, join_txt, flat_ones]
theorem len_ones (cs : List Nat) : ((cs.map fun c => txt [c]).map (·.length)).sum = cs.length := by
  induction cs with
  | nil => rfl
  | cons c r ih =>
    show (txt [c]).length + ((r.map fun c => txt [c]).map (·.length)).sum = _
    rw [ih, txt_len, List.length_cons]
    simp [Nat.add_comm]
/-- a word: its sign, its letters (none is the sign) -/
def wd (s : Bool) (cs : List Nat) : List Nat := if s then 45 :: cs else cs
def Lt (cs : List Nat) : Prop := ∀ c ∈ cs, c ≠ 45
theorem letters_wd {s : Bool} {cs : List Nat} (h : Lt cs) : lettersL (wd s cs) = cs := by
  cases s with
  | true => rfl
  | false =>
    cases cs with
    | nil => rfl
    | cons c r =>
      show (if c = 45 then r else c :: r) = c :: r
      rw [if_neg (h c List.mem_cons_self)]
theorem sign_wd {s : Bool} {cs : List Nat} (h : Lt cs) : signL (wd s cs) = s.toNat := by
  cases s with
  | true => rfl
  | false =>
    cases cs with
    | nil => rfl
    | cons c r =>
      show (if c = 45 then 1 else 0) = 0
      rw [if_neg (h c List.mem_cons_self)]
theorem signed_wd (t : Int) (cs : List Nat) : signedL t cs = wd (decide (t % 2 = 1)) cs := by
  unfold signedL wd
  by_cases h : t % 2 = 1
  · rw [if_pos h, decide_eq_true h]; rfl
  · rw [if_neg h, decide_eq_false h]; rfl
theorem wd_len (s : Bool) (cs : List Nat) : (wd s cs).length = cs.length + s.toNat := by cases s <;> rfl
def spLetters : Sp := fun vs H Q _ => ∃ ts : List Nat, vs = [.str (txt ts)] ∧ ts.length ≤ sizeLine ∧ Q (.str (txt (lettersL ts))) H
def spSignOf : Sp := fun vs H Q _ => ∃ ts : List Nat, vs = [.str (txt ts)] ∧ ts.length ≤ sizeLine ∧ Q (.int (signL ts)) H
def spSigned : Sp := fun vs H Q _ => ∃ (t : Int) (cs : List Nat), vs = [.int t, .str (txt cs)] ∧ cs.length < sizeLine ∧ Q (.str (txt (signedL t cs))) H

/-! ### cancelling -/
def stp (rs : List Nat) (c : Nat) : List Nat := match rs with
  | [] => [c]
  | d :: r => if d = c then r else c :: d :: r
def noAdj : List Nat → Prop
  | a :: b :: r => a ≠ b ∧ noAdj (b :: r)
  | _ => True
theorem noAdj.tail {a : Nat} {r : List Nat} (h : noAdj (a :: r)) : noAdj r := by
  cases r with
  | nil => trivial
  | cons b r => exact h.2
theorem stp_noAdj {rs : List Nat} (c : Nat) (h : noAdj rs) : noAdj (stp rs c) := by
  cases rs with
  | nil => trivial
  | cons d r =>
    unfold stp
    dsimp only
    by_cases e : d = c
    · rw [if_pos e]; exact h.tail
    · rw [if_neg e]; exact ⟨fun z => e z.symm, h⟩
theorem stp_stp {rs : List Nat} (c : Nat) (h : noAdj rs) : stp (stp rs c) c = rs := by
  cases rs with
  | nil => show (if c = c then [] else _) = _; rw [if_pos rfl]
  | cons d r =>
    by_cases e : d = c
    · subst e
      have e1 : stp (d :: r) d = r := if_pos rfl
      rw [e1]
      cases r with
      | nil => rfl
      | cons b r =>
        show (if b = d then r else d :: b :: r) = _
        rw [if_neg (fun z => h.1 z.symm)]
    · have e1 : stp (d :: r) c = c :: d :: r := if_neg e
      rw [e1]
      show (if c = c then d :: r else _) = _
      rw [if_pos rfl]
def redR (cs : List Nat) : List Nat := cs.foldl stp []
def redL (cs : List Nat) : List Nat := (redR cs).reverse
theorem fold_noAdj : ∀ (cs rs : List Nat), noAdj rs → noAdj (cs.foldl stp rs)
  | [], _, h => h
  | c :: r, rs, h => fold_noAdj r (stp rs c) (stp_noAdj c h)
theorem redR_snoc (cs : List Nat) (c : Nat) : redR (cs ++ [c]) = stp (redR cs) c := by
  unfold redR
  rw [List.foldl_append]
  rfl
theorem red_cancel (a b : List Nat) (c : Nat) : redL (a ++ c :: c :: b) = redL (a ++ b) := by
  unfold redL redR
  rw [List.foldl_append, List.foldl_append]
  show (b.foldl stp (stp (stp (a.foldl stp []) c) c)).reverse = _
  rw [stp_stp c (fold_noAdj a [] trivial)]
theorem stp_mem {rs : List Nat} {c x : Nat} (h : x ∈ stp rs c) : x = c ∨ x ∈ rs := by
  cases rs with
  | nil => exact .inl (List.mem_singleton.mp h)
  | cons d r =>
    by_cases e : d = c
    · have e1 : stp (d :: r) c = r := if_pos e
      rw [e1] at h
      exact .inr (List.mem_cons_of_mem _ h)
    · have e1 : stp (d :: r) c = c :: d :: r := if_neg e
      rw [e1] at h
      exact (List.mem_cons.mp h)
theorem stp_len (rs : List Nat) (c : Nat) : (stp rs c).length ≤ rs.length + 1 := by
  cases rs with
  | nil => exact Nat.le_refl _
  | cons d r =>
    by_cases e : d = c
    · have e1 : stp (d :: r) c = r := if_pos e
      rw [e1, List.length_cons]; omega
    · have e1 : stp (d :: r) c = c :: d :: r := if_neg e
      rw [e1]; exact Nat.le_refl _
def still (cs : List Nat) : Prop := ∀ (i : Nat) (a b : Nat), cs[i]? = some a → cs[i + 1]? = some b → a ≠ b
theorem redR_take {cs : List Nat} (h : still cs) : ∀ k, k ≤ cs.length → redR (cs.take k) = (cs.take k).reverse
  | 0, _ => rfl
  | k + 1, hk => by
    have hk1 : k < cs.length := hk
    rw [List.take_succ_eq_append_getElem hk1, redR_snoc, redR_take h k (by omega), List.reverse_append]
    cases k with
    | zero => rfl
    | succ j =>
      have hj : j < cs.length := by omega
      rw [List.take_succ_eq_append_getElem hj, List.reverse_append]
      show (if cs[j] = cs[j + 1] then _ else cs[j + 1] :: cs[j] :: (cs.take j).reverse) = cs[j + 1] :: cs[j] :: (cs.take j).reverse
      rw [if_neg (h j _ _ (List.getElem?_eq_getElem hj) (List.getElem?_eq_getElem hk1))]
theorem red_still {cs : List Nat} (h : still cs) : redL cs = cs := by
  have e := redR_take h cs.length (Nat.le_refl _)
  rw [List.take_length] at e
  unfold redL
  rw [e, List.reverse_reverse]
theorem redR_len (cs : List Nat) : (redR cs).length ≤ cs.length := by
  have : ∀ (cs rs : List Nat), (cs.foldl stp rs).length ≤ rs.length + cs.length := by
    intro cs
    induction cs with
    | nil => intro rs; exact Nat.le_refl _
    | cons c r ih =>
      intro rs
      have h1 := ih (stp rs c)
      have h2 := stp_len rs c
      show (r.foldl stp (stp rs c)).length ≤ rs.length + (r.length + 1)
      omega
  have h := this cs []
  rw [List.length_nil, Nat.zero_add] at h
  exact h
def spReduced : Sp := fun vs H Q _ => ∃ ts : List Nat, vs = [.str (txt ts)] ∧ ts.length ≤ 1000 ∧ ∀ H', Same H H' → Q (.str (txt (signedL (signL ts) (redL (lettersL ts))))) H'

/-! ### slices of texts; lists of ints as data -/
theorem cutS_take (cs : List Nat) (k : Nat) : cutS (txt cs) none (some (k : Int)) = txt (cs.take k) := by
  unfold cutS
  rw [txt_cps, HT.sIx_none, HT.sIx_nat, txt_len]
  show txt _ = txt _
  congr 1
  rw [List.drop_zero, Nat.sub_zero]
  by_cases h : k ≤ cs.length
  · rw [Nat.min_eq_left h]
  · rw [Nat.min_eq_right (by omega), List.take_length, List.take_of_length_le (by omega)]
theorem cutS_drop (cs : List Nat) (k : Nat) : cutS (txt cs) (some (k : Int)) none = txt (cs.drop k) := by
  unfold cutS
  rw [txt_cps, HT.sIx_none, HT.sIx_nat, txt_len]
  show txt _ = txt _
  congr 1
  by_cases h : k ≤ cs.length
  · rw [Nat.min_eq_left h]
    exact List.take_of_length_le (by rw [List.length_drop]; exact Nat.le_refl _)
  · rw [Nat.min_eq_right (by omega), List.drop_of_length_le (Nat.le_refl _), List.drop_of_length_le (l := cs) (by omega)]
    exact List.take_nil
theorem cutV_take (xs : List V) (k : Nat) : cutV xs none (some (k : Int)) = xs.take k := by
  unfold cutV
  rw [HT.sIx_none, HT.sIx_nat, List.drop_zero, Nat.sub_zero]
  by_cases h : k ≤ xs.length
  · rw [Nat.min_eq_left h]
  · rw [Nat.min_eq_right (by omega), List.take_length, List.take_of_length_le (by omega)]
theorem dp_ints {K : PySem.W.Frag} {H : Hp} : ∀ ns : List Int, DpAll K H (ns.map V.int) (ns.map PyData.int)
  | [] => .nil
  | n :: r => .cons (.int n) (dp_ints r)
theorem shaped_ints' (ns : List Int) : SeqAt.shaped (.list (ns.map PyData.int)) = true := PySem.W.ke_shaped_ints ns
theorem signed_wd0 {s : Bool} (cs : List Nat) : signedL ((s.toNat : Nat) : Int) cs = wd s cs := by cases s <;> rfl
def spLSigned : Sp := spSigned
def spLets : Sp := fun vs H Q _ => vs = [] ∧ Q (.str (Str.ofString "abcdefghijklmnopqrstuvwx")) H
def alpha : List Nat := [97, 98, 99, 100, 101, 102, 103, 104, 105, 106, 107, 108, 109, 110, 111, 112, 113, 114, 115, 116, 117, 118, 119, 120]
theorem txt_alpha : Str.ofString "abcdefghijklmnopqrstuvwx" = txt alpha := by decide +kernel
theorem alpha_lt {c : Nat} (h : c ∈ alpha) : c ≠ 45 := by
  intro e
  subst e
  exact absurd h (by decide)
theorem perm_sigs {ys : List V} {cs : List Nat} (h : ys.Perm (cs.map sig)) : ∃ ds : List Nat, ys = ds.map sig ∧ ds.Perm cs := by
  refine ⟨ys.map (fun v => match v with | .str z => z.cps.toList.headD 0 | _ => 0), ?_, ?_⟩
  · rw [List.map_map]
    have : ∀ y ∈ ys, (sig ∘ fun v => match v with | .str z => z.cps.toList.headD 0 | _ => 0) y = y := by
      intro y hy
      obtain ⟨c, _, rfl⟩ := List.mem_map.mp (h.mem_iff.mp hy)
      rfl
    rw [List.map_congr_left this, List.map_id']
  · have h2 := h.map (fun v => match v with | .str z => z.cps.toList.headD 0 | _ => 0)
    rw [List.map_map] at h2
    have e : ((fun v => match v with | V.str z => z.cps.toList.headD 0 | _ => 0) ∘ sig) = id := by funext c; rfl
    rw [e, List.map_id] at h2
    exact h2
def spLaw (K : PySem.W.Frag) : Sp := fun vs H Q _ => ∃ (a : Addr) (ns : List Int), vs = [.ref a] ∧ SqL K H a (ns.map V.int) ∧ ns.length ≤ 63 ∧ ∀ H', Q (.bl true) H'
end Tm

/-! equations modulo two, as numbers whose bits are the unknowns -/
namespace Tm.Gauss
/-- how many bits -/
def bl (n : Nat) : Nat := if n = 0 then 0 else n.log2 + 1
theorem bl_zero : bl 0 = 0 := rfl
theorem bl_pos {n : Nat} (h : n ≠ 0) : bl n = n.log2 + 1 := if_neg h
theorem lt_bl (n : Nat) : n < 2 ^ bl n := by
  by_cases h : n = 0
  · subst h; decide
  · rw [bl_pos h]; exact Nat.lt_log2_self
theorem top_bit {n : Nat} (h : n ≠ 0) : n.testBit (bl n - 1) = true := by
  rw [bl_pos h, Nat.add_sub_cancel]
  exact Nat.testBit_log2 h
theorem bl_le {n k : Nat} (h : n < 2 ^ k) : bl n ≤ k := by
  by_cases z : n = 0
  · subst z; exact Nat.zero_le _
  · rw [bl_pos z]
    exact (Nat.log2_lt z).mpr h
/-- two with the same top: the top goes -/
theorem bl_xor {a b : Nat} (ha : a ≠ 0) (e : bl a = bl b) : bl (a ^^^ b) < bl a := by
  have hb : b ≠ 0 := fun z => by rw [z, bl_zero, bl_pos ha] at e; omega
  have pos : 0 < bl a := by rw [bl_pos ha]; omega
  have h : a ^^^ b < 2 ^ (bl a - 1) := by
    refine Nat.lt_pow_two_of_testBit _ fun i hi => ?_
    rw [Nat.testBit_xor]
    by_cases g : i = bl a - 1
    · subst g
      rw [top_bit ha, e, top_bit hb]
      rfl
    · have hi2 : bl a ≤ i := by omega
      have h1 : a.testBit i = false := Nat.testBit_lt_two_pow (Nat.lt_of_lt_of_le (lt_bl a) (Nat.pow_le_pow_right (by decide) hi2))
      have h2 : b.testBit i = false := Nat.testBit_lt_two_pow (Nat.lt_of_lt_of_le (lt_bl b) (Nat.pow_le_pow_right (by decide) (e ▸ hi2)))
      rw [h1, h2]
      rfl
  have := bl_le h
  omega
/-! ### whether the bits are odd in number -/
def par : Nat → Nat → Bool
  | 0, _ => false
  | n + 1, m => (par n m) ^^ m.testBit n
theorem par_xor (n a b : Nat) : par n (a ^^^ b) = (par n a ^^ par n b) := by
  induction n with
  | zero => rfl
  | succ n ih =>
    unfold par
    rw [ih, Nat.testBit_xor]
    cases par n a <;> cases par n b <;> cases a.testBit n <;> cases b.testBit n <;> rfl
theorem par_zero (n : Nat) : par n 0 = false := by
  induction n with
  | zero => rfl
  | succ n ih => unfold par; rw [ih, Nat.zero_testBit]; rfl
theorem par_pow {n k : Nat} (h : k < n) : par n (2 ^ k) = true := by
  induction n with
  | zero => omega
  | succ n ih =>
    unfold par
    rw [Nat.testBit_two_pow]
    by_cases e : k = n
    · subst e
      have z : par k (2 ^ k) = false := by
        have all : ∀ m, m ≤ k → par m (2 ^ k) = false := by
          intro m
          induction m with
          | zero => intro _; rfl
          | succ m ih2 =>
            intro hm
            unfold par
            rw [ih2 (by omega), Nat.testBit_two_pow]
            have : ¬ k = m := by omega
            simp [this]
        exact all k (Nat.le_refl _)
      simp [z]
    · rw [ih (by omega)]
      simp [e]
/-- the places of the ones -/
def bitsL (n m : Nat) : List Nat := (List.range n).filter fun i => m.testBit i
theorem bits_succ (n m : Nat) : bitsL (n + 1) m = bitsL n m ++ (if m.testBit n then [n] else []) := by
  unfold bitsL
  rw [List.range_succ, List.filter_append]
  congr 1
  cases h : m.testBit n <;> simp [h]
theorem bits_len (n m : Nat) : (bitsL n m).length % 2 = (par n m).toNat := by
  induction n with
  | zero => rfl
  | succ n ih =>
    rw [bits_succ, List.length_append]
    show _ = (par n m ^^ m.testBit n).toNat
    cases m.testBit n <;> cases hp : par n m <;> rw [hp] at ih
    · have t : (bitsL n m).length % 2 = 0 := ih
      show ((bitsL n m).length + 0) % 2 = 0
      omega
    · have t : (bitsL n m).length % 2 = 1 := ih
      show ((bitsL n m).length + 0) % 2 = 1
      omega
    · have t : (bitsL n m).length % 2 = 0 := ih
      show ((bitsL n m).length + 1) % 2 = 1
      omega
    · have t : (bitsL n m).length % 2 = 1 := ih
      show ((bitsL n m).length + 1) % 2 = 0
      omega
theorem bits_mem {n m i : Nat} : i ∈ bitsL n m ↔ i < n ∧ m.testBit i = true := by
  unfold bitsL
  rw [List.mem_filter, List.mem_range]
/-! ### equations -/
structure Eqn where
  u : Nat
  v : Bool
/-- S (its bits are the ones) satisfies the equation; N: more than all unknowns -/
def sat (N S : Nat) (q : Eqn) : Prop := par N (q.u &&& S) = q.v
def Eqn.add (p q : Eqn) : Eqn := ⟨p.u ^^^ q.u, p.v ^^ q.v⟩
theorem and_xor (a b S : Nat) : (a ^^^ b) &&& S = (a &&& S) ^^^ (b &&& S) := by
  apply Nat.eq_of_testBit_eq
  intro i
  rw [Nat.testBit_and, Nat.testBit_xor, Nat.testBit_xor, Nat.testBit_and, Nat.testBit_and]
  cases a.testBit i <;> cases b.testBit i <;> cases S.testBit i <;> rfl
theorem sat_add {N S : Nat} {p q : Eqn} (h : sat N S q) : sat N S (p.add q) ↔ sat N S p := by
  unfold sat Eqn.add at *
  dsimp only
  rw [and_xor, par_xor, h]
  cases par N (p.u &&& S) <;> cases p.v <;> cases q.v <;> decide
@[ext] theorem Eqn.ext' {p q : Eqn} (h : p.u = q.u) (g : p.v = q.v) : p = q := by
  cases p; cases q; cases h; cases g; rfl
def zero : Eqn := ⟨0, false⟩
theorem sat_zero (N S : Nat) : sat N S zero := by
  unfold sat zero
  rw [Nat.zero_and, par_zero]
theorem sat_false {N S : Nat} {q : Eqn} (h : q.u = 0) (g : q.v = true) : ¬ sat N S q := by
  unfold sat
  rw [h, g, Nat.zero_and, par_zero]
  decide
/-- the sum of the first n equations whose places are the ones of c -/
def comb (g : Nat → Eqn) : Nat → Nat → Eqn
  | 0, _ => zero
  | n + 1, c => if c.testBit n then (comb g n c).add (g n) else comb g n c
theorem comb_sat {N S : Nat} {g : Nat → Eqn} : ∀ {n : Nat} (c : Nat), (∀ i, i < n → sat N S (g i)) → sat N S (comb g n c)
  | 0, c, _ => sat_zero N S
  | n + 1, c, h => by
    have ih := comb_sat (n := n) c fun i hi => h i (by omega)
    unfold comb
    split
    · exact (sat_add (h n (by omega))).mpr ih
    · exact ih
theorem xor_swap (a b c d : Nat) : (a ^^^ b) ^^^ (c ^^^ d) = (a ^^^ c) ^^^ (b ^^^ d) := by
  apply Nat.eq_of_testBit_eq
  intro i
  simp only [Nat.testBit_xor]
  cases a.testBit i <;> cases b.testBit i <;> cases c.testBit i <;> cases d.testBit i <;> rfl
theorem add_swap (a b c d : Eqn) : (a.add b).add (c.add d) = (a.add c).add (b.add d) := by
  refine Eqn.ext' (xor_swap _ _ _ _) ?_
  show ((a.v ^^ b.v) ^^ (c.v ^^ d.v)) = ((a.v ^^ c.v) ^^ (b.v ^^ d.v))
  cases a.v <;> cases b.v <;> cases c.v <;> cases d.v <;> rfl
theorem add_self (a : Eqn) : a.add a = zero := by
  refine Eqn.ext' (Nat.xor_self _) ?_
  show (a.v ^^ a.v) = false
  cases a.v <;> rfl
theorem add_zero (a : Eqn) : a.add zero = a := by
  refine Eqn.ext' (Nat.xor_zero _) ?_
  show (a.v ^^ false) = a.v
  cases a.v <;> rfl
theorem zero_add (a : Eqn) : zero.add a = a := by
  refine Eqn.ext' (Nat.zero_xor _) ?_
  show (false ^^ a.v) = a.v
  cases a.v <;> rfl
theorem comb_xor (g : Nat → Eqn) (n c d : Nat) : comb g n (c ^^^ d) = (comb g n c).add (comb g n d) := by
  induction n with
  | zero => exact (add_zero zero).symm
  | succ n ih =>
    unfold comb
    rw [ih, Nat.testBit_xor]
    have hz := add_swap (comb g n c) zero (comb g n d) (g n)
    have hz2 := add_swap (comb g n c) (g n) (comb g n d) zero
    have hz3 := add_swap (comb g n c) (g n) (comb g n d) (g n)
    rw [add_zero, zero_add] at hz
    rw [add_zero, add_zero] at hz2
    rw [add_self, add_zero] at hz3
    cases c.testBit n <;> cases d.testBit n
    · rfl
    · exact hz.symm
    · exact hz2.symm
    · exact hz3.symm
theorem comb_low {g : Nat → Eqn} : ∀ {n k : Nat}, n ≤ k → comb g n (2 ^ k) = zero
  | 0, _, _ => rfl
  | n + 1, k, h => by
    unfold comb
    rw [Nat.testBit_two_pow, if_neg (by simp; omega)]
    exact comb_low (by omega)
theorem comb_one {g : Nat → Eqn} : ∀ {n k : Nat}, k < n → comb g n (2 ^ k) = g k
  | 0, _, h => by omega
  | n + 1, k, h => by
    unfold comb
    rw [Nat.testBit_two_pow]
    by_cases e : k = n
    · subst e
      rw [if_pos (by simp), comb_low (Nat.le_refl _), zero_add]
    · rw [if_neg (by simp [e])]
      exact comb_one (by omega)
/-! ### the rows that are kept -/
structure Rw where
  q : Eqn
  c : Nat
def Rw.add (r t : Rw) : Rw := ⟨r.q.add t.q, r.c ^^^ t.c⟩
/-- a row is the sum of the equations that it names -/
def Rw.fair (g : Nat → Eqn) (n k : Nat) (r : Rw) : Prop := r.q = comb g n r.c ∧ r.c < 2 ^ k
theorem Rw.fair.add {g : Nat → Eqn} {n k : Nat} {r t : Rw} (h : r.fair g n k) (h2 : t.fair g n k) : (r.add t).fair g n k := by
  refine ⟨?_, Nat.xor_lt_two_pow h.2 h2.2⟩
  show r.q.add t.q = comb g n (r.c ^^^ t.c)
  rw [h.1, h2.1, comb_xor]
theorem Rw.fair.mono {g : Nat → Eqn} {n k k' : Nat} {r : Rw} (h : r.fair g n k) (l : k ≤ k') : r.fair g n k' := ⟨h.1, Nat.lt_of_lt_of_le h.2 (Nat.pow_le_pow_right (by decide) l)⟩
/-- the rows behind k equations; N: more than all unknowns -/
structure Kept (N : Nat) (g : Nat → Eqn) (n k : Nat) (f : Nat → Option Rw) : Prop where
  top : ∀ L r, f L = some r → r.q.u ≠ 0 ∧ bl r.q.u = L
  fair : ∀ L r, f L = some r → r.fair g n k
  span : ∀ i, i < k → ∀ S, (∀ L r, f L = some r → sat N S r.q) → sat N S (g i)
theorem kept_nil (N : Nat) (g : Nat → Eqn) (n : Nat) : Kept N g n 0 fun _ => none := ⟨fun _ _ h => (nomatch h), fun _ _ h => (nomatch h), fun i hi => absurd hi (Nat.not_lt_zero i)⟩
/-- what the taking away of tops keeps -/
structure Reach (N : Nat) (g : Nat → Eqn) (n k : Nat) (f : Nat → Option Rw) (r0 r : Rw) : Prop where
  fair : r.fair g n k
  same : ∀ S, (∀ L t, f L = some t → sat N S t.q) → (sat N S r.q ↔ sat N S r0.q)
  less : bl r.q.u ≤ bl r0.q.u
theorem Reach.refl {N : Nat} {g : Nat → Eqn} {n k : Nat} {f : Nat → Option Rw} {r0 : Rw} (h : r0.fair g n k) : Reach N g n k f r0 r0 := ⟨h, fun _ _ => Iff.rfl, Nat.le_refl _⟩
theorem Reach.step {N : Nat} {g : Nat → Eqn} {n k k0 : Nat} {f : Nat → Option Rw} {r0 r t : Rw} (K : Kept N g n k0 f) (l : k0 ≤ k) (h : Reach N g n k f r0 r) (ht : f (bl r.q.u) = some t) : Reach N g n k f r0 (r.add t) ∧ bl (r.add t).q.u < bl r.q.u := by
  have tp := K.top _ _ ht
  have nz : r.q.u ≠ 0 := fun z => by
    have e := tp.2
    rw [z, bl_zero, bl_pos tp.1] at e
    omega
  have lt : bl (r.add t).q.u < bl r.q.u := bl_xor nz tp.2.symm
  refine ⟨⟨h.fair.add ((K.fair _ _ ht).mono l), fun S hS => ?_, Nat.le_trans (Nat.le_of_lt lt) h.less⟩, lt⟩
  exact (sat_add (hS _ _ ht)).trans (h.same S hS)
/-- a new row -/
def put (f : Nat → Option Rw) (r : Rw) : Nat → Option Rw := fun L => if L = bl r.q.u then some r else f L
theorem Kept.more {N : Nat} {g : Nat → Eqn} {n k : Nat} {f : Nat → Option Rw} {r0 r : Rw} (K : Kept N g n k f) (e : r0.q = g k) (h : Reach N g n (k + 1) f r0 r) (nz : r.q.u ≠ 0) (new : f (bl r.q.u) = none) : Kept N g n (k + 1) (put f r) := by
  have old : ∀ L t, f L = some t → put f r L = some t := fun L t ht => by
    unfold put
    rw [if_neg (fun z => by rw [z, new] at ht; cases ht)]
    exact ht
  refine ⟨fun L t ht => ?_, fun L t ht => ?_, fun i hi S hS => ?_⟩
  · unfold put at ht
    split at ht
    · rename_i z
      cases ht
      exact ⟨nz, z.symm⟩
    · exact K.top L t ht
  · unfold put at ht
    split at ht
    · cases ht
      exact h.fair
    · exact (K.fair L t ht).mono (Nat.le_succ _)
  · have hS' : ∀ L t, f L = some t → sat N S t.q := fun L t ht => hS L t (old L t ht)
    by_cases z : i = k
    · subst z
      rw [← e]
      refine (h.same S hS').mp (hS (bl r.q.u) r ?_)
      unfold put
      rw [if_pos rfl]
    · exact K.span i (by omega) S hS'
theorem Kept.none {N : Nat} {g : Nat → Eqn} {n k : Nat} {f : Nat → Option Rw} {r0 r : Rw} (K : Kept N g n k f) (e : r0.q = g k) (h : Reach N g n (k + 1) f r0 r) (z : r.q.u = 0) (v : r.q.v = false) : Kept N g n (k + 1) f := by
  refine ⟨K.top, fun L t ht => (K.fair L t ht).mono (Nat.le_succ _), fun i hi S hS => ?_⟩
  by_cases q : i = k
  · subst q
    rw [← e]
    refine (h.same S hS).mp ?_
    unfold sat
    rw [z, v, Nat.zero_and, par_zero]
  · exact K.span i (by omega) S hS
/-- a row without unknowns and of the value 1: nothing satisfies all -/
theorem no_sol {N : Nat} {g : Nat → Eqn} {n k S : Nat} {r : Rw} (h : r.fair g n k) (z : r.q.u = 0) (v : r.q.v = true) : ¬ ∀ i, i < n → sat N S (g i) := fun all => by
  have s := comb_sat (N := N) (S := S) r.c all
  rw [← h.1] at s
  exact sat_false z v s
/-! ### the ones, from the shortest row on -/
def stepOne (N : Nat) (f : Nat → Option Rw) (S L : Nat) : Nat := match f L with
  | some r => if (par N (r.q.u &&& S) ^^ r.q.v) then S ^^^ 2 ^ (L - 1) else S
  | none => S
theorem and_pow_low {u k : Nat} (h : u < 2 ^ k) : u &&& 2 ^ k = 0 := by
  apply Nat.eq_of_testBit_eq
  intro i
  rw [Nat.testBit_and, Nat.testBit_two_pow, Nat.zero_testBit]
  by_cases e : k = i
  · subst e
    rw [Nat.testBit_lt_two_pow h]
    rfl
  · simp [e]
theorem and_pow_top {u k : Nat} (h : u.testBit k = true) : u &&& 2 ^ k = 2 ^ k := by
  apply Nat.eq_of_testBit_eq
  intro i
  rw [Nat.testBit_and, Nat.testBit_two_pow]
  by_cases e : k = i
  · subst e
    rw [h]
    rfl
  · simp [e]
theorem and_xor' (u a b : Nat) : u &&& (a ^^^ b) = (u &&& a) ^^^ (u &&& b) := by
  rw [Nat.and_comm, and_xor, Nat.and_comm a, Nat.and_comm b]
/-- all rows that are not longer than the last place are satisfied, and no longer one is touched -/
theorem step_ok {N : Nat} {g : Nat → Eqn} {n k : Nat} {f : Nat → Option Rw} (K : Kept N g n k f) {S L M : Nat} (low : S < 2 ^ M) (ML : M < L) (LN : L ≤ N) (done : ∀ L' r, L' ≤ M → f L' = some r → sat N S r.q) (gap : ∀ L', M < L' → L' < L → f L' = none) :
    stepOne N f S L < 2 ^ L ∧ ∀ L' r, L' ≤ L → f L' = some r → sat N (stepOne N f S L) r.q := by
  have lowL : S < 2 ^ L := Nat.lt_of_lt_of_le low (Nat.pow_le_pow_right (by decide) (by omega))
  have pl : 2 ^ (L - 1) < 2 ^ L := Nat.pow_lt_pow_right (by decide) (by omega)
  cases h : f L with
  | none =>
    have e : stepOne N f S L = S := by unfold stepOne; rw [h]
    rw [e]
    refine ⟨lowL, fun L' r hL hr => ?_⟩
    by_cases z : L' ≤ M
    · exact done L' r z hr
    · by_cases y : L' = L
      · subst y; rw [h] at hr; cases hr
      · rw [gap L' (by omega) (by omega)] at hr; cases hr
  | some t =>
    have tp := K.top L t h
    have tb : t.q.u.testBit (L - 1) = true := by rw [← tp.2]; exact top_bit tp.1
    have e : stepOne N f S L = if (par N (t.q.u &&& S) ^^ t.q.v) then S ^^^ 2 ^ (L - 1) else S := by unfold stepOne; rw [h]
    have own : sat N (stepOne N f S L) t.q := by
      rw [e]
      unfold sat
      split
      · rename_i o
        rw [and_xor', par_xor, and_pow_top tb, par_pow (by omega)]
        revert o
        cases par N (t.q.u &&& S) <;> cases t.q.v <;> decide
      · rename_i o
        revert o
        cases par N (t.q.u &&& S) <;> cases t.q.v <;> decide
    refine ⟨?_, fun L' r hL hr => ?_⟩
    · rw [e]
      split
      · exact Nat.xor_lt_two_pow lowL pl
      · exact lowL
    · by_cases z : L' ≤ M
      · have d := done L' r z hr
        have rl : r.q.u < 2 ^ (L - 1) := by
          have b1 := lt_bl r.q.u
          rw [(K.top L' r hr).2] at b1
          exact Nat.lt_of_lt_of_le b1 (Nat.pow_le_pow_right (by decide) (by omega))
        rw [e]
        split
        · unfold sat at *
          rw [and_xor', and_pow_low rl, Nat.xor_zero]
          exact d
        · exact d
      · by_cases y : L' = L
        · subst y
          rw [h] at hr
          cases hr
          exact own
        · rw [gap L' (by omega) (by omega)] at hr; cases hr
/-- the ones of all rows satisfy all equations -/
theorem ones_ok {N : Nat} {g : Nat → Eqn} {n k : Nat} {f : Nat → Option Rw} (K : Kept N g n k f) :
    ∀ (Ls : List Nat) (S M : Nat), S < 2 ^ M → (∀ L' r, L' ≤ M → f L' = some r → sat N S r.q) → (M :: Ls).Pairwise (· < ·) → (∀ L ∈ Ls, L ≤ N) → (∀ L r, f L = some r → L ≤ M ∨ L ∈ Ls) →
      (∀ i, i < k → sat N (Ls.foldl (stepOne N f) S) (g i)) ∧ ∃ M', Ls.foldl (stepOne N f) S < 2 ^ M' ∧ (M' = M ∨ M' ∈ Ls)
  | [], S, M, low, done, _, _, all => by
    refine ⟨fun i hi => K.span i hi S fun L r hr => ?_, M, low, .inl rfl⟩
    rcases all L r hr with h | h
    · exact done L r h hr
    · cases h
  | L :: Ls, S, M, low, done, up, few, all => by
    have u1 := List.pairwise_cons.mp up
    have u2 := List.pairwise_cons.mp u1.2
    have ML : M < L := u1.1 L List.mem_cons_self
    have gap : ∀ L', M < L' → L' < L → f L' = none := fun L' h1 h2 => by
      cases h : f L' with
      | none => rfl
      | some r =>
        rcases all L' r h with q | q
        · omega
        · rcases List.mem_cons.mp q with q | q
          · omega
          · have := u2.1 L' q
            omega
    have st := step_ok K low ML (few L List.mem_cons_self) done gap
    have rest := ones_ok K Ls (stepOne N f S L) L st.1 st.2 u1.2 (fun x hx => few x (List.mem_cons_of_mem _ hx)) fun L' r hr => by
      rcases all L' r hr with q | q
      · exact .inl (by omega)
      · rcases List.mem_cons.mp q with q | q
        · exact .inl (by omega)
        · exact .inr q
    refine ⟨rest.1, ?_⟩
    obtain ⟨M', h1, h2⟩ := rest.2
    refine ⟨M', h1, ?_⟩
    rcases h2 with h2 | h2
    · exact .inr (h2 ▸ List.mem_cons_self)
    · exact .inr (List.mem_cons_of_mem _ h2)
end Tm.Gauss

/-! the bits of ints that are not negative -/
namespace Tm
open PySem PySem.Spec PyProof.Rows L2 Tm.Gauss
theorem or_parts : ∀ a b : Nat, a ||| b = (a ^^^ b) + (a &&& b) := by
  intro a
  induction a using Nat.strongRecOn with
  | ind a ih =>
    intro b
    by_cases z : a = 0
    · subst z; simp
    · have h := ih (a / 2) (by omega) (b / 2)
      have o1 := Nat.div_add_mod (a ||| b) 2
      have o2 := Nat.div_add_mod (a ^^^ b) 2
      have o3 := Nat.div_add_mod (a &&& b) 2
      have d1 : (a ||| b) / 2 = a / 2 ||| b / 2 := Nat.or_div_two
      have d2 : (a ^^^ b) / 2 = a / 2 ^^^ b / 2 := Nat.xor_div_two
      have d3 : (a &&& b) / 2 = a / 2 &&& b / 2 := Nat.and_div_two
      have m1 : (a ||| b) % 2 = (a % 2 ||| b % 2) := Nat.or_mod_two_pow (n := 1)
      have m2 : (a ^^^ b) % 2 = (a % 2 ^^^ b % 2) := Nat.xor_mod_two_pow (n := 1)
      have m3 : (a &&& b) % 2 = (a % 2 &&& b % 2) := Nat.and_mod_two_pow (n := 1)
      have m : (a % 2 ||| b % 2) = (a % 2 ^^^ b % 2) + (a % 2 &&& b % 2) := by
        rcases Nat.mod_two_eq_zero_or_one a with x | x <;> rcases Nat.mod_two_eq_zero_or_one b with y | y <;> rw [x, y] <;> rfl
      omega
theorem and_nat (a b : Nat) : Builtin.bitAnd (a : Int) (b : Int) = ((a &&& b : Nat) : Int) := by
  unfold Builtin.bitAnd
  rw [decide_eq_true (Int.natCast_nonneg a), decide_eq_true (Int.natCast_nonneg b)]
  rfl
theorem xor_nat (a b : Nat) : Builtin.bitXor (a : Int) (b : Int) = ((a ^^^ b : Nat) : Int) := by
  unfold Builtin.bitXor
  rw [bitOr_nn (Int.natCast_nonneg a) (Int.natCast_nonneg b), and_nat]
  show ((a ||| b : Nat) : Int) - _ = _
  rw [or_parts a b]
  omega
theorem bl_int (m : Nat) : Builtin.Int.intBits (m : Int) = bl m := by
  unfold Builtin.Int.intBits bl
  by_cases z : m = 0
  · subst z; rfl
  · have e : ((m : Int) == 0) = false := by simp; omega
    rw [e, if_neg z]
    rfl
section
variable {X : Cx}
def rXorN : V → V → Hp → VK → Prop := fun x y H Q => ∃ n m : Nat, x = .int (n : Int) ∧ y = .int (m : Int) ∧ Q (.int ((n ^^^ m : Nat) : Int)) H
theorem iop_xorN : OpR X (inplaceOp .BitXor) rXorN := by
  rintro pins s σ H x y v u Q inv rx ry ⟨n, m, rfl, rfl, q⟩
  refine iop_xor pins s σ H _ _ v u Q inv rx ry ⟨_, _, rfl, rfl, ?_⟩
  dsimp only
  rw [xor_nat]
  exact q
def rAndN : V → V → Hp → VK → Prop := fun x y H Q => ∃ n m : Nat, x = .int (n : Int) ∧ y = .int (m : Int) ∧ Q (.int ((n &&& m : Nat) : Int)) H
theorem op_andN : OpR X (binaryOp .BitAnd) rAndN := by
  rintro pins s σ H x y v u Q inv rx ry ⟨n, m, rfl, rfl, q⟩
  refine op_and pins s σ H _ _ v u Q inv rx ry ⟨_, _, rfl, rfl, ?_⟩
  dsimp only
  rw [and_nat]
  exact q
end
/-! ### the top taken away -/
theorem bits_eq {n a b : Nat} (h : ∀ i, i < n → a.testBit i = b.testBit i) : bitsL n a = bitsL n b := by
  unfold bitsL
  apply List.filter_congr
  intro i hi
  exact h i (List.mem_range.mp hi)
theorem bits_short {n m k : Nat} (h : m < 2 ^ n) (l : n ≤ k) : bitsL k m = bitsL n m := by
  induction k with
  | zero => rw [show n = 0 from by omega]
  | succ k ih =>
    by_cases e : n = k + 1
    · rw [e]
    · rw [bits_succ, ih (by omega), Nat.testBit_lt_two_pow (Nat.lt_of_lt_of_le h (Nat.pow_le_pow_right (by decide) (by omega)))]
      simp
theorem xor_top {m : Nat} (h : m ≠ 0) : m ^^^ 2 ^ (bl m - 1) < 2 ^ (bl m - 1) := by
  refine Nat.lt_pow_two_of_testBit _ fun i hi => ?_
  rw [Nat.testBit_xor, Nat.testBit_two_pow]
  by_cases e : bl m - 1 = i
  · subst e
    rw [top_bit h]
    simp
  · have z : m.testBit i = false := Nat.testBit_lt_two_pow (Nat.lt_of_lt_of_le (lt_bl m) (Nat.pow_le_pow_right (by decide) (by omega)))
    rw [z]
    simp [e]
theorem bits_top {m : Nat} (h : m ≠ 0) : bitsL (bl m) m = bitsL (bl (m ^^^ 2 ^ (bl m - 1))) (m ^^^ 2 ^ (bl m - 1)) ++ [bl m - 1] := by
  have pos : 0 < bl m := by rw [bl_pos h]; omega
  have e : bl m = (bl m - 1) + 1 := by omega
  have l := xor_top h
  rw [← bits_short (lt_bl _) (bl_le l)]
  conv => lhs; rw [e]
  rw [bits_succ, top_bit h]
  simp only [if_true]
  congr 1
  apply bits_eq
  intro i hi
  rw [Nat.testBit_xor, Nat.testBit_two_pow]
  have ne : ¬ bl m - 1 = i := by omega
  simp [ne]
/-- a measure: the bits of the int in a slot -/
def slotBl (i : Nat) (σ : L2.St) (_ : Hp) : Nat := match σ[i]? with
  | some (some (V.int n)) => bl n.toNat
  | _ => 0
def nv (n : Nat) : V := .int (n : Int)
def spBits : Sp := fun vs H Q _ => ∃ m : Nat, vs = [nv m] ∧ bl m ≤ 1000 ∧ ∀ H' p, Same H H' → H p = none → H' p = some (.lst ((bitsL (bl m) m).map nv)) → Q (.ref p) H'
/-- the number of some places -/
def numL (ps : List Nat) : Nat := ps.foldl (fun n p => n ^^^ 2 ^ p) 0
def spNumW (K : PySem.W.Frag) : Sp := fun vs H Q _ => ∃ (p : Addr) (ps : List Nat), vs = [.ref p] ∧ SqL K H p (ps.map nv) ∧ (∀ z ∈ ps, z ≤ 1000) ∧ Q (nv (numL ps)) H
/-! ### rows in a dict -/
def rowT (r : Rw) : List V := [nv r.q.u, nv r.q.v.toNat, nv r.c]
abbrev Ent := Nat × Addr × Rw
def entK (es : List Ent) : List (Key × V) := es.map fun e => (Sum.inl (e.1 : Int), V.ref e.2.1)
structure DRows (H : Hp) (d : Addr) (es : List Ent) : Prop where
  dict : H d = some (.dK (entK es))
  rows : ∀ e ∈ es, H e.2.1 = some (.tup (rowT e.2.2))
def entAt (es : List Ent) (L : Nat) : Option Ent := es.find? fun e => e.1 == L
def rowAt (es : List Ent) (L : Nat) : Option Rw := (entAt es L).map fun e => e.2.2
theorem ent_val (es : List Ent) (L : Nat) : valV (entK es) (Sum.inl (L : Int)) = (entAt es L).map fun e => V.ref e.2.1 := by
  induction es with
  | nil => rfl
  | cons e r ih =>
    show valV ((Sum.inl (e.1 : Int), V.ref e.2.1) :: entK r) (Sum.inl (L : Int)) = _
    by_cases h : e.1 = L
    · subst h
      rw [valV_pos rfl]
      unfold entAt
      simp
    · rw [valV_neg (fun z => h (by have := Sum.inl.inj z; omega)), ih]
      unfold entAt
      simp [h]
theorem ent_mem {es : List Ent} {L : Nat} {e : Ent} (h : entAt es L = some e) : e ∈ es ∧ e.1 = L := ⟨List.mem_of_find?_eq_some h, by simpa using List.find?_some h⟩
theorem DRows.same {H H' : Hp} {d : Addr} {es : List Ent} (h : DRows H d es) (s : Same H H') : DRows H' d es := ⟨s _ _ h.dict, fun e he => s _ _ (h.rows e he)⟩
theorem ent_new {es : List Ent} {L : Nat} (h : entAt es L = none) (p : Addr) (r : Rw) : entK (es ++ [(L, p, r)]) = putK (entK es) (Sum.inl (L : Int)) (V.ref p) := by
  rw [putK_new _ (by rw [ent_val, h]; rfl)]
  unfold entK
  rw [List.map_append]
  rfl
theorem row_new {es : List Ent} {p : Addr} {r : Rw} (h : entAt es (bl r.q.u) = none) : rowAt (es ++ [(bl r.q.u, p, r)]) = put (rowAt es) r := by
  funext L
  unfold put rowAt entAt at *
  rw [List.find?_append]
  by_cases e : L = bl r.q.u
  · subst e
    rw [h, if_pos rfl]
    simp
  · rw [if_neg e]
    have n : ¬ bl r.q.u = L := fun z => e z.symm
    simp [n]
theorem xor_bl (a b : Bool) : a.toNat ^^^ b.toNat = (a ^^ b).toNat := by cases a <;> cases b <;> rfl
def spTops (K : PySem.W.Frag) : Sp := fun vs H Q _ => ∃ (N : Nat) (g : Nat → Eqn) (n k0 k : Nat) (p d : Addr) (es : List Ent) (r0 : Rw), vs = [.ref p, .ref d] ∧ SqT K H p (rowT r0) ∧ DRows H d es ∧ Kept N g n k0 (rowAt es) ∧ k0 ≤ k ∧ r0.fair g n k ∧
  ∀ H' q r, Same H H' → H q = none → H' q = some (.tup (rowT r)) → Reach N g n k (rowAt es) r0 r → entAt es (bl r.q.u) = none → Q (.ref q) H'
/-! ### the ones of the rows -/
theorem low_bits {N a b : Nat} (h : a < 2 ^ N) : bl (a &&& b) ≤ N := bl_le (Nat.lt_of_le_of_lt Nat.and_le_left h)
theorem odd_test {N m : Nat} (h : bl m ≤ N) (v : Bool) : ((bitsL (bl m) m).length + v.toNat) % 2 = (par N m ^^ v).toNat := by
  have e := bits_len N m
  rw [bits_short (lt_bl m) h] at e
  rw [Nat.add_mod, e]
  cases par N m <;> cases v <;> rfl
theorem nats_of {ys : List Int} {ks : List Nat} (h : ys.Perm (ks.map fun k : Nat => (k : Int))) (up : ys.Pairwise (· ≤ ·)) (nd : ks.Nodup) : ∃ Ls : List Nat, ys = Ls.map (fun k : Nat => (k : Int)) ∧ Ls.Perm ks ∧ Ls.Pairwise (· < ·) := by
  have back : ∀ y ∈ ys, ((fun k : Nat => (k : Int)) ∘ Int.toNat) y = id y := fun y hy => by
    obtain ⟨k, _, rfl⟩ := List.mem_map.mp (h.mem_iff.mp hy)
    rfl
  have e : ys = (ys.map Int.toNat).map fun k : Nat => (k : Int) := by rw [List.map_map, List.map_congr_left back, List.map_id]
  have p : (ys.map Int.toNat).Perm ks := by
    have h2 := h.map Int.toNat
    rw [List.map_map, show Int.toNat ∘ (fun k : Nat => (k : Int)) = id from rfl, List.map_id] at h2
    exact h2
  refine ⟨ys.map Int.toNat, e, p, ?_⟩
  rw [e, List.pairwise_map] at up
  have nd2 : (ys.map Int.toNat).Pairwise (· ≠ ·) := p.nodup_iff.mpr nd
  refine (up.and nd2).imp fun {a b} h => ?_
  have h1 : (a : Int) ≤ (b : Int) := h.1
  have h2 : a ≠ b := h.2
  omega
structure Good (N : Nat) (g : Nat → Eqn) (n k : Nat) (es : List Ent) : Prop where
  kept : Kept N g n k (rowAt es)
  uniq : (es.map fun e => e.1).Nodup
  few : es.length < 64
  wide : ∀ e ∈ es, e.1 ≤ N
theorem ent_is {es : List Ent} (nd : (es.map fun e => e.1).Nodup) {e : Ent} (h : e ∈ es) : entAt es e.1 = some e := by
  induction es with
  | nil => cases h
  | cons x r ih =>
    have nd2 := List.nodup_cons.mp nd
    unfold entAt
    rw [List.find?_cons]
    by_cases z : x.1 = e.1
    · rcases List.mem_cons.mp h with q | q
      · subst q; simp
      · exact absurd (List.mem_map.mpr ⟨e, q, z.symm⟩) nd2.1
    · have z2 : (x.1 == e.1) = false := by simpa using z
      rw [z2]
      rcases List.mem_cons.mp h with q | q
      · exact absurd (by rw [q]) z
      · exact ih nd2.2 q
def spOnes : Sp := fun vs H Q _ => ∃ (N : Nat) (g : Nat → Eqn) (n k : Nat) (d : Addr) (es : List Ent), vs = [.ref d] ∧ DRows H d es ∧ Good N g n k es ∧ N ≤ 1000 ∧
  ∀ H' p S, Same H H' → H p = none → H' p = some (.lst ((bitsL (bl S) S).map nv)) → S < 2 ^ N → (∀ i, i < k → sat N S (g i)) → Q (.ref p) H'
/-! ### equations in memory -/
theorem walk_numbered {K : PySem.W.Frag} {a : Addr} {xs : List V} : Walk (Ite K a) xs.length (fun H => SqL K H a xs) (fun i H v H' => ∃ T x, v = .ref T ∧ H T = none ∧ H' = upd H T (.tup [.int (i : Nat), x]) ∧ xs[i]? = some x) where
  goes i H lt here := by
    refine ⟨xs, xs[i], here, ?_⟩
    exact List.getElem?_eq_getElem lt
  stops H here := ⟨xs, here, Nat.le.refl⟩
  yields i H v H' lt here got := by
    obtain ⟨T, x, e1, e2, e3, which⟩ := got
    exact ⟨T, x, e1, e2, e3, which xs here⟩
structure EqsAt (H : Hp) (qs : List Addr) (eqs : List (List Nat × Bool)) : Prop where
  len : qs.length = eqs.length
  at_ : ∀ (i : Nat) (q : Addr) (e : List Nat × Bool), qs[i]? = some q → eqs[i]? = some e → ∃ u, H q = some (.tup [.ref u, nv e.2.toNat]) ∧ H u = some (.lst (e.1.map nv))
theorem EqsAt.same {H H' : Hp} {qs : List Addr} {eqs : List (List Nat × Bool)} (h : EqsAt H qs eqs) (s : Same H H') : EqsAt H' qs eqs :=
  ⟨h.len, fun i q e hq he => let ⟨u, h1, h2⟩ := h.at_ i q e hq he; ⟨u, s _ _ h1, s _ _ h2⟩⟩
def eqnOf (e : List Nat × Bool) : Eqn := ⟨numL e.1, e.2⟩
def gOf (eqs : List (List Nat × Bool)) (i : Nat) : Eqn := match eqs[i]? with
  | some e => eqnOf e
  | none => zero
theorem num_lt {N : Nat} : ∀ (ps : List Nat) (m : Nat), (∀ z ∈ ps, z < N) → m < 2 ^ N → ps.foldl (fun n p => n ^^^ 2 ^ p) m < 2 ^ N
  | [], _, _, h => h
  | p :: r, m, hz, h => num_lt r _ (fun z hr => hz z (List.mem_cons_of_mem _ hr)) (Nat.xor_lt_two_pow h (Nat.pow_lt_pow_right (by decide) (hz p List.mem_cons_self)))
def sSol : Str := Str.ofString "solution"
def sCon : Str := Str.ofString "contradiction"
def spSolve (K : PySem.W.Frag) : Sp := fun vs H Q _ => ∃ (N : Nat) (p : Addr) (c : V) (qs : List Addr) (eqs : List (List Nat × Bool)), vs = [.ref p, c] ∧ SqL K H p (qs.map V.ref) ∧ EqsAt H qs eqs ∧ eqs.length ≤ 60 ∧ N ≤ 900 ∧ (∀ e ∈ eqs, ∀ z ∈ e.1, z < N) ∧
  (∀ H' t b S, Same H H' → H t = none → H' t = some (.tup [.str sSol, .ref b]) → H' b = some (.lst ((bitsL (bl S) S).map nv)) → S < 2 ^ N → (∀ i, i < eqs.length → sat N S (gOf eqs i)) → Q (.ref t) H') ∧
  (∀ H' t b c', Same H H' → H t = none → H' t = some (.tup [.str sCon, .ref b]) → H' b = some (.lst ((bitsL (bl c') c').map nv)) → c' < 2 ^ eqs.length → (comb (gOf eqs) eqs.length c').u = 0 → (comb (gOf eqs) eqs.length c').v = true → Q (.ref t) H')
end Tm

/-! sets of texts -/
namespace Tm
open PySem PySem.Spec PyProof.Rows L2 PySem.Froz
section
variable {P : Program} {w : World} {A : Around} {E : Value → Shared → Prop} {s : Shared}
/-- the payload of a set that was just made -/
def fresh (w : World) : SD := (#[], 0, .fresh 0 0 (!w.params.followText "set-order"))
theorem new_set1 (v : Value) {Q : Value → Shared → Prop} (h : Q (.ref s.heap.objs.size) { s with heap := s.heap.push (sObj "set" (fresh w)) }) :
    codeAny (model P w) A (.call (.builtin "set.__new__") ⟨[.type "set", v], []⟩) (wants Q E) s := by
  refine codeAny_call_builtin PySem.F.plain_set_new PySem.F.entry_set_new (wpAny_of_eq (PySem.F.newCall_set_1 v) ?_)
  unfold Builtin.«set.__new__» Builtin.Frozenset.newClass
  have sub := PySem.sub_set_self
  repeat any_goals first | assumption | wp_step
  apply wpAny_askSetting
  apply wpAny_pure
  simp only [newObj]
  apply wpAny_bind
  apply wpAny_alloc
  apply wpAny_pure
  exact wpAny_pure h
/-- a text that is there already -/
theorem add_old {a : Addr} {T : String} {D : SD} {l : List Str} {k : Str} {u : Tok} {Q : Bool → Shared → Prop} (there : s.heap.get? a = some (sObj T D)) (F : TxOk P w D l) (hk : k ∈ l) (few : l.length < scanBound) (h : Q false s) :
    wpAny (model P w) A (setAddHashed a (.str k u) (hashStr w k)) Q E s := by
  obtain ⟨es, ep, t⟩ := D
  have size : es.size < scanBound := by rw [show es.size = l.length from F.sz]; exact few
  obtain ⟨e, he, hit⟩ := (F.mem k).mp hk
  have found : ∃ j, es.toList.findIdx? (fun e => (strKind P w).is k e.2) = some j := by
    cases q : es.toList.findIdx? (fun e => (strKind P w).is k e.2) with
    | none => exact absurd hit (by simpa using List.findIdx?_eq_none_iff.mp q e he)
    | some j => exact ⟨j, rfl⟩
  obtain ⟨j, at_j⟩ := found
  unfold setAddHashed
  apply wpAny_holding
  show wpAny _ _ (setAddHashedIn a (.str k u) (hashStr w k) (99999 + 1)) _ _ _
  unfold setAddHashedIn
  apply wpAny_bind
  apply wpAny_setState_of there rfl F.fit
  dsimp only
  rw [if_pos (byScan_of (knd := strKind P w) rfl size F.el)]
  apply wpAny_bind
  unfold setAddByScan
  apply wpAny_bind
  apply wpAny_rule
  apply wpAny_bind
  apply wpAny_setScan_of (knd := strKind P w) (k := k) (is_str k u) there rfl F.fit F.el
  rw [at_j]
  apply wpAny_pure
  exact wpAny_pure h
/-- the set of the texts l at a: its table can be walked -/
structure SetTx (w : World) (h : Heap) (a : Addr) (l : List Str) : Prop where
  ex : ∃ D : SD, h.get? a = some (sObj "set" D) ∧ (∀ P : Program, TxOk P w D l) ∧ Ris D.2.2.place.toList ∧ (w.params.followText "set-order" = true ∨ D.2.2.led = true)
  nodup : l.Nodup
theorem SetTx.at {h h' : Heap} {a : Addr} {l : List Str} (S : SetTx w h a l) (k : ∀ o, h.get? a = some o → h'.get? a = some o) : SetTx w h' a l := by
  obtain ⟨⟨D, there, r⟩, nd⟩ := S
  exact ⟨⟨D, k _ there, r⟩, nd⟩
theorem addTx_ris (h : Int) (v : Value) (D : SD) (r : Ris D.2.2.place.toList) : Ris (addTx h v D).2.2.place.toList ∧ (addTx h v D).2.2.led = D.2.2.led := by
  have r1 := layNew_ris D.2.2 D.1 h v r
  have l1 := layNew_led D.2.2 D.1 h v
  unfold addTx tailTx
  generalize layNew D.2.2 D.1 h v = Z at r1 l1 ⊢
  obtain ⟨es1, t1, wd, gave⟩ := Z
  dsimp only at r1 l1 ⊢
  have r2 : Ris (if t1.plain = true then { t1 with plain := false } else t1).place.toList := by
    split
    · exact r1
    · exact r1
  have l2 : (if t1.plain = true then { t1 with plain := false } else t1).led = D.2.2.led := by
    split
    · exact l1
    · exact l1
  generalize (if t1.plain = true then { t1 with plain := false } else t1) = t2 at r2 l2 ⊢
  split
  · exact ⟨relayAll_ris _ _ _, (relayAll_led _ _ _).trans l2⟩
  · exact ⟨r2, l2⟩
/-- the members behind an add -/
def addS (l : List Str) (k : Str) : List Str := if k ∈ l then l else k :: l
theorem add_tx {a : Addr} {l : List Str} {k : Str} {u : Tok} {Q : Bool → Shared → Prop} (S : SetTx w s.heap a l) (few : l.length + 1 < scanBound)
    (h : ∀ h', Heap.SameBut a s.heap h' → SetTx w h' a (addS l k) → ∀ b, Q b { s with heap := h', toks := s.toks + 1 }) : wpAny (model P w) A (setAdd a (.str k u)) Q E s := by
  obtain ⟨⟨D, there, ok, ris, led⟩, nd⟩ := id S
  unfold setAdd
  apply wpAny_holding
  apply wpAny_bind
  apply (strKind P w).pyHash (k := k) (strKind_is _ _ _ _)
  by_cases hk : k ∈ l
  · apply add_old (s := { s with toks := s.toks + 1 }) there (ok P) hk (by omega)
    have e : addS l k = l := if_pos hk
    rw [e] at h
    exact h s.heap (Heap.SameBut.refl _ _) S false
  · apply add_x (s := { s with toks := s.toks + 1 }) there (ok P) hk few
    have e : addS l k = k :: l := if_neg hk
    rw [e] at h
    obtain ⟨r2, l2⟩ := addTx_ris (hashStr w k) (.str k u) D ris
    refine h _ (Heap.SameBut.update s.heap a _) ⟨⟨_, get_upd _ there rfl, fun P => add_ok u (ok P), r2, led.imp id fun z => l2.trans z⟩, List.nodup_cons.mpr ⟨hk, nd⟩⟩ true
theorem addS_len (l : List Str) (k : Str) : (addS l k).length ≤ l.length + 1 := by
  unfold addS
  split
  · exact Nat.le_succ _
  · exact Nat.le_refl _
/-- the loop that puts what an iterator hands out into the set -/
theorem fill_tx {R : Result → Shared → Prop} {I a : Addr} {fp wr : List Addr} {n : Nat} {Pv : Nat → Value → Prop} {St : Nat → Heap → Prop} (xs : List Str) (W : Walks P w A.in1 I fp wr n Pv St) (hn : n = xs.length) (texts : ∀ i v, Pv i v → ∃ x t, xs[i]? = some x ∧ v = .str x t) (apart : a ∉ fp) :
    ∀ (m i : Nat) (l : List Str) (s : Shared), i + m = n → St i s.heap → SetTx w s.heap a l → l.length + m < scanBound →
      (∀ h' tk, (∀ b o, b ∉ a :: wr → s.heap.get? b = some o → h'.get? b = some o) → SetTx w h' a ((xs.drop i).foldl addS l) → R (.ok (.ret .none)) { s with heap := h', toks := tk }) →
      codeAny (model P w) A (.builtin "set.update.loop" ⟨[.ref a, .ref I], []⟩) R s := by
  have apart2 : a ∉ wr := fun z => apart (W.sub a z)
  intro m
  induction m with
  | zero =>
    intro i l s left st S _ hand
    have e : i = n := left
    subst e
    apply codeAny_builtin PyProof.Rows.F.entry_set_update_loop
    rw [Around.under_plainId PyProof.Rows.F.plain_set_update_loop _]
    apply wpAny_bind
    apply W.done s _ _ st
    intro h' tk kept
    apply wpAny_pure
    have none_left : xs.drop i = [] := List.drop_of_length_le (by omega)
    rw [none_left] at hand
    exact hand h' tk (fun b o hb there => kept b o (fun z => hb (List.mem_cons_of_mem _ z)) there) (S.at fun o there => kept a o apart2 there)
  | succ m ih =>
    intro i l s left st S few hand
    apply codeAny_builtin PyProof.Rows.F.entry_set_update_loop
    rw [Around.under_plainId PyProof.Rows.F.plain_set_update_loop _]
    apply wpAny_bind
    apply W.item i s _ _ (by omega) st
    intro v h1 tk1 drawn st1 kept1
    obtain ⟨x, t, at_i, rfl⟩ := texts i v drawn
    apply wpAny_bind
    apply wpAny_holding
    apply add_tx (s := { s with heap := h1, toks := tk1 }) (S.at fun o there => kept1 a o apart2 there) (by omega)
    intro h2 same2 S2 _
    have grown := addS_len l x
    have rest : xs.drop i = x :: xs.drop (i + 1) := by
      have lt : i < xs.length := (List.getElem?_eq_some_iff.mp at_i).1
      rw [List.drop_eq_getElem_cons lt, (List.getElem?_eq_some_iff.mp at_i).2]
    rw [rest] at hand
    refine wpAny_pure ⟨plainId_quiet PyProof.Rows.F.plain_set_update_loop _, ?_⟩
    apply ih (i + 1) (addS l x) { s with heap := h2, toks := tk1 + 1 } (by omega) (W.frame _ _ _ st1 fun b hb o there => ?_) S2 (by omega)
    · intro h' tk kept S'
      refine hand h' tk (fun b o hb there => ?_) S'
      have nb : b ≠ a := fun z => hb (z ▸ List.mem_cons_self)
      exact kept b o hb ((same2.2 b nb).trans (kept1 b o (fun z => hb (List.mem_cons_of_mem _ z)) there))
    · exact (same2.2 b (fun z => apart (z ▸ hb))).trans there
theorem led_or (w : World) : w.params.followText "set-order" = true ∨ (fresh w).2.2.led = true :=
  Decidable.or_iff_not_imp_left.mpr fun no => (congrArg (fun q => !q) (Bool.eq_false_iff.mpr no) :)
set_option maxHeartbeats 3200000 in
theorem init_tx {R : Result → Shared → Prop} {T : String} {v : Value} {o : Obj} {Hc : Heap → Prop} {a : Addr} (xs : List Str) (here : s.heap.get? a = some (sObj "set" (fresh w))) (B : Begins v o Hc) (now : Hc s.heap) (hv : s.TypeIs v T)
    (ns : isSubtype (.type T) (.type "set") = pure false) (nf : isSubtype (.type T) (.type "frozenset") = pure false) (nd : (Value.type T == .type "dict") = false) (few : xs.length < scanBound)
    {Pv : Nat → Value → Prop} {fp : List Addr} {St : Nat → Heap → Prop} (W : Walks P w A.in1.in1 s.heap.objs.size fp [s.heap.objs.size] xs.length Pv St) (texts : ∀ i v, Pv i v → ∃ x t, xs[i]? = some x ∧ v = .str x t)
    (start : St 0 (s.heap.push o)) (apart : a ∉ fp)
    (hand : ∀ h' tk, (∀ b ob, b ≠ a → s.heap.get? b = some ob → h'.get? b = some ob) → SetTx w h' a (xs.foldl addS []) → R (.ok (.ret .none)) { s with heap := h', toks := tk }) :
    codeAny (model P w) A (.call (.builtin "set.__init__") ⟨[.ref a, v], []⟩) R s := by
  have hT : s.TypeIs (.ref a) "set" := ⟨_, here, rfl⟩
  obtain ⟨hp, g, d, tk, os⟩ := s
  have it : ∀ {A' : Around} {E : Value → Shared → Prop} {Q : Value → Shared → Prop}, Q (.ref hp.objs.size) ⟨hp.push o, g, d, tk, os⟩ → wpAny (model P w) A' (pyIter v) Q E ⟨hp, g, d, tk, os⟩ := fun q => B.iter P w _ _ ⟨hp, g, d, tk, os⟩ _ now q
  refine codeAny_call_builtin PySem.F.called_set.init.plain PySem.F.entry_set_init (PySem.check_set_init_1 hT ?_)
  unfold Builtin.«set.__init__» noKeywords
  wp_walk using it
  have S0 : SetTx w (hp.push o) a [] := ⟨⟨fresh w, Heap.get?_push_of_some _ here, fun P => TxOk.nil rfl, .nil, led_or w⟩, .nil⟩
  apply fill_tx (A := A.in1) xs W rfl texts apart xs.length 0 [] ⟨hp.push o, g, d, tk, os⟩ (Nat.zero_add _) start S0 (by simpa using few)
  intro h' tk' kept S'
  apply wpAny_pure
  apply wpAny_pure
  refine hand h' tk' (fun b ob nb there => kept b ob (fun z => ?_) (Heap.get?_push_of_some _ there)) S'
  rcases List.mem_cons.mp z with z | z
  · exact nb z
  · have e : b = hp.objs.size := List.mem_singleton.mp z
    subst e
    exact absurd (Heap.lt_size there) (Nat.lt_irrefl _)
set_option maxHeartbeats 3200000 in
/-- set(v): the new set, then its filling -/
theorem call_set1 {v : Value} {Q : Value → Shared → Prop} (fill : codeAny (model P w) A.in1 (.call (.builtin "set.__init__") ⟨[.ref s.heap.objs.size, v], []⟩) (wants (fun r s2 => r = .none ∧ Q (.ref s.heap.objs.size) s2) E) { s with heap := s.heap.push (sObj "set" (fresh w)) }) :
    wpAny (model P w) A (call (.type "set") [v]) Q E s := by
  have ft := PySem.F.called_set
  obtain ⟨c, tl, order⟩ := ft.mro
  have made := ft.made
  have sub := ft.sub
  have h1 := ft.notType
  have h2 := ft.canCreate
  have hct := PySem.F.typeCall_set_1 v
  apply wpAny_call
  apply codeAny_of_tree
  show wpAny _ _ (callAny (.type "set") _) _ _ _
  apply wpAny_pure
  refine ⟨Code.quiet_builtin _ (by decide +kernel), ?_⟩
  apply codeAny_builtin PySem.F.entry_type_call
  rw [Around.under_plain (weight_type_call_type "set" [v] []) rfl]
  repeat any_goals first | assumption | wp_step
  refine codeAny_mono (new_set1 v (E := E) (Q := fun obj s1 => obj = .ref s.heap.objs.size ∧ s1 = { s with heap := s.heap.push (sObj "set" (fresh w)) }) ⟨rfl, rfl⟩) fun r s1 hr => ?_
  cases r with
  | error e => exact hr
  | ok fl =>
    cases fl with
    | ret obj =>
      obtain ⟨rfl, rfl⟩ := hr
      have lk := ft.init.lookup
      have bd := ft.init.bind (.ref s.heap.objs.size)
      have hT : Shared.TypeIs { s with heap := s.heap.push (sObj "set" (fresh w)) } (.ref s.heap.objs.size) "set" := ⟨_, Heap.get?_push_size _ rfl, rfl⟩
      repeat any_goals first | assumption | wp_step
      refine codeAny_mono (R := wants (fun r s2 => r = .none ∧ Q (.ref s.heap.objs.size) s2) E) ?run fun r2 s2 hr2 => ?back
      case back =>
        cases r2 with
        | error e => exact hr2
        | ok fl2 =>
          cases fl2 with
          | ret r =>
            obtain ⟨rfl, done⟩ := hr2
            repeat any_goals first | assumption | wp_step
          | next => exact hr2.elim
          | brk => exact hr2.elim
          | cont => exact hr2.elim
      case run => exact fill
    | next => exact hr.elim
    | brk => exact hr.elim
    | cont => exact hr.elim
set_option maxHeartbeats 3200000 in
theorem call_set_tx {T : String} {v : Value} {o : Obj} {Hc : Heap → Prop} {Q : Value → Shared → Prop} (xs : List Str) (B : Begins v o Hc) (now : Hc s.heap) (ty : ∀ s' : Shared, Hc s'.heap → s'.TypeIs v T)
    (ns : isSubtype (.type T) (.type "set") = pure false) (nf : isSubtype (.type T) (.type "frozenset") = pure false) (nd : (Value.type T == .type "dict") = false) (few : xs.length < scanBound)
    {Pv : Nat → Value → Prop} {fp : Addr → List Addr} {St : Addr → Nat → Heap → Prop} (hh : A.handled = none) (W : ∀ (A' : Around) (I : Addr), A'.handled = none → (∀ o, s.heap.get? I ≠ some o) → Walks P w A' I (fp I) [I] xs.length Pv (St I)) (texts : ∀ i v, Pv i v → ∃ x t, xs[i]? = some x ∧ v = .str x t)
    (start : ∀ h : Heap, Hc h → St h.objs.size 0 (h.push o)) (apart : s.heap.objs.size ∉ fp (s.heap.objs.size + 1))
    (hand : ∀ h' tk, (∀ b ob, s.heap.get? b = some ob → h'.get? b = some ob) → SetTx w h' s.heap.objs.size (xs.foldl addS []) → Q (.ref s.heap.objs.size) { s with heap := h', toks := tk }) :
    wpAny (model P w) A (call (.type "set") [v]) Q E s := by
  refine call_set1 ?_
  have now1 : Hc (s.heap.push (sObj "set" (fresh w))) := B.keeps _ _ now fun b ob there => Heap.get?_push_of_some _ there
  have here : (s.heap.push (sObj "set" (fresh w))).get? s.heap.objs.size = some (sObj "set" (fresh w)) := Heap.get?_push_size _ rfl
  have size : (s.heap.push (sObj "set" (fresh w))).objs.size = s.heap.objs.size + 1 := Heap.size_push ..
  refine init_tx (s := { s with heap := s.heap.push (sObj "set" (fresh w)) }) (T := T) xs here B now1 (ty _ now1) ns nf nd few (W _ _ hh (fun ob there => absurd (Heap.lt_size there) (by show ¬ (s.heap.push (sObj "set" (fresh w))).objs.size < s.heap.objs.size; rw [size]; omega))) texts (start _ now1) (by rw [show ({ s with heap := s.heap.push (sObj "set" (fresh w)) } : Shared).heap.objs.size = s.heap.objs.size + 1 from size]; exact apart) fun h' tk kept S => ?_
  exact ⟨rfl, hand h' tk (fun b ob there => kept b ob (fun z => absurd (Heap.lt_size there) (by rw [z]; exact Nat.lt_irrefl _)) (Heap.get?_push_of_some _ there)) S⟩
end
/-! ### over the layer -/
def SetSO (w : World) (a : Addr) (l : List Str) : HO := .ext fun h => SetTx w h a l
theorem setSO_new {P : Program} {w : World} {H : Hp} {h : Heap} {a : Addr} {l : List Str} (S : SetTx w h a l) : ObjOk P w H h a (SetSO w a l) := by
  obtain ⟨D, there, _⟩ := S.ex
  exact ⟨S, ⟨_, there⟩, fun h1 h2 z k => z.at k⟩
theorem setSO_get {X : Cx} {pins : List (Addr × Obj)} {σ : L2.St} {H : Hp} {s : Shared} {a : Addr} {l : List Str} (inv : Inv X pins σ H s) (at_a : H a = some (SetSO X.w a l)) : SetTx X.w s.heap a l := (inv.hok a _ at_a).1
/-- the members of set(xs) -/
def members (xs : List Str) : List Str := xs.foldl addS []
theorem strs_place {xs : List Str} {us : List Value} (r : Vals (xs.map V.str) us) {i : Nat} {v : Value} (h : us.toArray[i]? = some v) : ∃ x t, xs[i]? = some x ∧ v = .str x t := by
  have h2 : us[i]? = some v := by simpa using h
  induction xs generalizing us i with
  | nil => cases r; cases h2
  | cons x xs ih =>
    cases r with
    | @cons _ u _ us head tail =>
      cases i with
      | zero =>
        obtain ⟨t, rfl⟩ := head
        exact ⟨x, t, rfl, (Option.some.inj h2).symm⟩
      | succ i => exact ih tail (by simpa using h2) (by simpa using h2)
theorem call_setTexts {X : Cx} (calm : X.calm = true) : CallR X (.type "set") (fun given H Q => ∃ (p : Addr) (xs : List Str), given = [.ref p] ∧ (SqL X.K H p (xs.map V.str) ∨ SqT X.K H p (xs.map V.str)) ∧ xs.length ≤ 1000 ∧ ∀ a, H a = none → Q (.ref a) (upd H a (SetSO X.w a (members xs)))) :=
  fun pins s σ H given held Q inv rel ask => by
    rcases ask with ⟨p, xs, rfl, stands, few, hand⟩
    match held, rel with
    | [_], .cons rfl .nil =>
      have small : xs.length < scanBound := by unfold scanBound; omega
      have out : ∀ h' tk, (∀ b ob, s.heap.get? b = some ob → h'.get? b = some ob) → SetTx X.w h' s.heap.objs.size (xs.foldl addS []) → EP X pins σ Q (.ref s.heap.objs.size) { s with heap := h', toks := tk } := fun h' tk kept S =>
        ⟨.ref _, upd H s.heap.objs.size (SetSO X.w s.heap.objs.size (members xs)), inv.laid kept (Nat.le_refl _) (setSO_new S), rfl, hand _ (inv.hok.fresh (Nat.le_refl _))⟩
      rcases stands with stands | stands
      · obtain ⟨us, vals, plain, _⟩ := inv.list stands
        have num : us.toArray.size = xs.length := by rw [List.size_toArray, ← vals.length, List.length_map]
        have isl := plain.isList
        obtain ⟨ob, there, _⟩ := id isl
        refine call_set_tx (T := "list") xs (begins_list p us.toArray) isl (fun s' h => let ⟨o, ho, hc, _⟩ := h; ⟨o, ho, hc⟩) PySem.F.sub_list_set PySem.F.sub_list_frozenset (by decide) small (inv.ok.hd calm) (fp := fun I => [I, p]) (St := fun I i h => h.IsListIter I p i ∧ h.IsList p us.toArray)
          (fun A' I hh new => num ▸ Walks.list hh I p (fun z => new ob (z ▸ there)) us.toArray) (fun i v h => strs_place vals h) (fun h hl => ⟨⟨_, Heap.get?_push_size _ rfl, rfl, rfl⟩, hl.at fun o e => Heap.get?_push_of_some _ e⟩) ?_ out
        intro z
        rcases List.mem_cons.mp z with z | z
        · exact absurd z (Nat.ne_of_lt (Nat.lt_succ_self _))
        · exact absurd (Heap.lt_size there) (by rw [← List.mem_singleton.mp z]; exact Nat.lt_irrefl _)
      · obtain ⟨us, vals, ist, _⟩ := inv.tuple stands
        have num : us.toArray.size = xs.length := by rw [List.size_toArray, ← vals.length, List.length_map]
        have ist2 : s.heap.IsTuple p us.toArray := ist
        obtain ⟨ob, there, _⟩ := id ist2
        refine call_set_tx (T := "tuple") xs (begins_tuple p us.toArray) ist2 (fun s' h => let ⟨o, ho, hc, _⟩ := h; ⟨o, ho, hc⟩) PySem.F.sub_tuple_set PySem.F.sub_tuple_frozenset (by decide) small (inv.ok.hd calm) (fp := fun I => [I, p]) (St := fun I i h => h.IsTupleIter I p i ∧ h.IsTuple p us.toArray)
          (fun A' I hh new => num ▸ Walks.tuple hh I p (fun z => new ob (z ▸ there)) us.toArray) (fun i v h => strs_place vals h) (fun h hl => ⟨⟨_, Heap.get?_push_size _ rfl, rfl, rfl⟩, hl.at fun o e => Heap.get?_push_of_some _ e⟩) ?_ out
        intro z
        rcases List.mem_cons.mp z with z | z
        · exact absurd z (Nat.ne_of_lt (Nat.lt_succ_self _))
        · exact absurd (Heap.lt_size there) (by rw [← List.mem_singleton.mp z]; exact Nat.lt_irrefl _)
end Tm

/-! set of a list of ints -/
namespace Tm
open PySem PySem.Spec PyProof.Rows L2 PySem.Froz
section
variable {P : Program} {w : World} {A : Around} {E : Value → Shared → Prop} {s : Shared}
set_option maxHeartbeats 3200000 in
theorem init_ints {R : Result → Shared → Prop} {v : Value} {o : Obj} {Hc : Heap → Prop} {a : Addr} {T : String} (ns : List Int) (here : s.heap.get? a = some (sObj "set" (fresh w))) (B : Begins v o Hc) (now : Hc s.heap) (hv : s.TypeIs v T)
    (n1 : isSubtype (.type T) (.type "set") = pure false) (n2 : isSubtype (.type T) (.type "frozenset") = pure false) (nd : (Value.type T == .type "dict") = false) (few : ns.length + 1 < scanBound)
    {Pv : Nat → Value → Prop} {fp wr : List Addr} {G : Array GenState → Array GenState → Prop} {St : Nat → Shared → Prop} (W : WalksS P w A.in1.in1 s.heap.objs.size fp wr G ns.length Pv St) (nums : ∀ i v, Pv i v → ∃ k t, ns[i]? = some k ∧ v = .int k t)
    (start : St 0 { s with heap := s.heap.push o }) (apart : a ∉ fp)
    (hand : ∀ s' c, Moved (a :: wr) G { s with heap := s.heap.push o } s' → c ≤ ns.length → SetR w s'.heap a (fun j => decide (j ∈ ns)) c → R (.ok (.ret .none)) s') :
    codeAny (model P w) A (.call (.builtin "set.__init__") ⟨[.ref a, v], []⟩) R s := by
  have hT : s.TypeIs (.ref a) "set" := ⟨_, here, rfl⟩
  obtain ⟨hp, g, d, tk, os⟩ := s
  have it : ∀ {A' : Around} {E : Value → Shared → Prop} {Q : Value → Shared → Prop}, Q (.ref hp.objs.size) ⟨hp.push o, g, d, tk, os⟩ → wpAny (model P w) A' (pyIter v) Q E ⟨hp, g, d, tk, os⟩ := fun q => B.iter P w _ _ ⟨hp, g, d, tk, os⟩ _ now q
  refine codeAny_call_builtin PySem.F.called_set.init.plain PySem.F.entry_set_init (PySem.check_set_init_1 hT ?_)
  unfold Builtin.«set.__init__» noKeywords
  wp_walk using it
  refine set_update_ints (A := A.in1) W a apart ns rfl few nums (ns.length - 0) 0 ⟨hp.push o, g, d, tk, os⟩ rfl (Nat.zero_le _) start ⟨0, Nat.le_refl _, setR_new_at (Heap.get?_push_of_some _ here)⟩ fun s' c moved hc S => ?_
  apply wpAny_pure
  apply wpAny_pure
  exact hand s' c moved hc S
end
theorem nums_place {ns : List Int} {us : List Value} (r : Vals (ns.map V.int) us) {i : Nat} {v : Value} (h : us.toArray[i]? = some v) : ∃ k t, ns[i]? = some k ∧ v = .int k t := by
  have h2 : us[i]? = some v := by simpa using h
  clear h
  induction ns generalizing us i with
  | nil => cases r; cases h2
  | cons x xs ih =>
    cases r with
    | @cons _ u _ us head tail =>
      cases i with
      | zero =>
        obtain ⟨t, rfl⟩ := head
        exact ⟨x, t, rfl, (Option.some.inj h2).symm⟩
      | succ i => exact ih tail (by simpa using h2)
def rSetI (K : PySem.W.Frag) (w : World) : List V → Hp → VK → Prop := fun given H Q => ∃ (p : Addr) (ns : List Int), given = [.ref p] ∧ SqL K H p (ns.map V.int) ∧ ns.length ≤ 1000 ∧ ∀ a c, H a = none → c ≤ ns.length → Q (.ref a) (upd H a (SetO w a (fun j => decide (j ∈ ns)) c))
theorem call_setInts {X : Cx} (calm : X.calm = true) : CallR X (.type "set") (rSetI X.K X.w) :=
  fun pins s σ H given held Q inv rel ask => by
    rcases ask with ⟨p, ns, rfl, stands, few, hand⟩
    match held, rel with
    | [_], .cons rfl .nil =>
      have small : ns.length + 1 < scanBound := by unfold scanBound; omega
      obtain ⟨us, vals, plain, _⟩ := inv.list stands
      have num : us.toArray.size = ns.length := by rw [List.size_toArray, ← vals.length, List.length_map]
      have isl := plain.isList
      obtain ⟨ob, there, _⟩ := id isl
      have lp := Heap.lt_size there
      have size : (s.heap.push (sObj "set" (fresh X.w))).objs.size = s.heap.objs.size + 1 := Heap.size_push ..
      have isl1 : (s.heap.push (sObj "set" (fresh X.w))).IsList p us.toArray := isl.at fun o e => Heap.get?_push_of_some _ e
      have ne : p ≠ (s.heap.push (sObj "set" (fresh X.w))).objs.size := by
        rw [size]
        exact Nat.ne_of_lt (Nat.lt_succ_of_lt lp)
      have W0 := (Walks.list (prog := X.prog) (w := X.w) (A := X.A.in1.in1.in1) (inv.ok.hd calm) (s.heap.push (sObj "set" (fresh X.w))).objs.size p ne us.toArray).toS
      rw [num] at W0
      refine call_set1 ?_
      refine init_ints (s := { s with heap := s.heap.push (sObj "set" (fresh X.w)) }) (T := "list") ns (Heap.get?_push_size _ rfl) (begins_list p us.toArray) isl1 (let ⟨o, ho, hc, _⟩ := isl1; ⟨o, ho, hc⟩) PySem.F.sub_list_set PySem.F.sub_list_frozenset (by decide) small
        W0 (fun i v h => nums_place vals h) ⟨⟨_, Heap.get?_push_size _ rfl, rfl, rfl⟩, isl1.at fun o e => Heap.get?_push_of_some _ e⟩ ?_ fun s' c moved hc S => ?_
      · intro z
        rcases List.mem_cons.mp z with z | z
        · rw [size] at z
          exact absurd z (Nat.ne_of_lt (Nat.lt_succ_self _))
        · rw [← List.mem_singleton.mp z] at lp
          exact Nat.lt_irrefl _ lp
      · obtain ⟨h', g', d', tk', os'⟩ := s'
        have eg : g' = s.gens := moved.gens
        have ed : d' = s.drawn := moved.drawn
        have eo : os' = s.os := moved.os
        subst eg ed eo
        have kept : ∀ b ob, s.heap.get? b = some ob → h'.get? b = some ob := fun b ob at_b => by
          have lt := Heap.lt_size at_b
          refine moved.heap b ob (fun z => ?_) (Heap.get?_push_of_some _ (Heap.get?_push_of_some _ at_b))
          rcases List.mem_cons.mp z with z | z
          · rw [z] at lt
            exact Nat.lt_irrefl _ lt
          · rw [List.mem_singleton.mp z, size] at lt
            exact absurd lt (Nat.not_lt.mpr (Nat.le_succ _))
        exact ⟨rfl, .ref _, upd H s.heap.objs.size (SetO X.w s.heap.objs.size (fun j => decide (j ∈ ns)) c), inv.laid kept (Nat.le_refl _) (setO_new S), rfl, hand _ c (inv.hok.fresh (Nat.le_refl _)) hc⟩
/-! ### sums of lists of ints -/
def RowsI (K : PySem.W.Frag) (H : Hp) (ps : List Addr) (rs : List (List Int)) : Prop :=
  ps.length = rs.length ∧ ∀ (i : Nat) (p : Addr) (r : List Int), ps[i]? = some p → rs[i]? = some r → SqL K H p (r.map V.int)
theorem RowsI.same {K : PySem.W.Frag} {H H' : Hp} {ps : List Addr} {rs : List (List Int)} (h : RowsI K H ps rs) (s : Same H H') : RowsI K H' ps rs :=
  ⟨h.1, fun i p r hp hr => s.seq (h.2 i p r hp hr)⟩
def spLSumI (K : PySem.W.Frag) : Sp := fun vs H Q _ => ∃ (p : Addr) (ps : List Addr) (rs : List (List Int)), vs = [.ref p] ∧ SqL K H p (ps.map V.ref) ∧ RowsI K H ps rs ∧ rs.flatten.length < 64 ∧
  ∀ (H' : Hp) (q : Addr) (ys : List Int), Same H H' → H q = none → H' q = some (.lst (ys.map V.int)) → ys.Pairwise (· < ·) → (∀ z : Int, z ∈ ys ↔ rs.flatten.count z % 2 = 1) → Q (.ref q) H'
theorem nodup_le : ∀ (l m : List Nat), l.Nodup → (∀ x, x ∈ l → x ∈ m) → l.length ≤ m.length
  | [], m, _, _ => Nat.zero_le _
  | x :: l, m, nd, sub => by
    obtain ⟨u, v, rfl⟩ := List.append_of_mem (sub x List.mem_cons_self)
    have apart := List.nodup_cons.mp nd
    have rest := nodup_le l (u ++ v) apart.2 fun y hy => by
      have hm := sub y (List.mem_cons_of_mem _ hy)
      have ne : y ≠ x := fun z => apart.1 (z ▸ hy)
      simp only [List.mem_append, List.mem_cons] at hm ⊢
      rcases hm with hm | hm | hm
      · exact .inl hm
      · exact absurd hm ne
      · exact .inr hm
    simp at rest ⊢
    omega
/-- ints that all are naturals below m -/
theorem nats_below {ys : List Int} {m : Nat} (srt : ys.Pairwise (· < ·)) (h : ∀ z ∈ ys, ∃ n : Nat, z = (n : Int) ∧ n < m) : ∃ us : List Nat, ys = us.map (fun z : Nat => (z : Int)) ∧ us.Nodup ∧ (∀ z ∈ us, z < m) ∧ us.length ≤ m := by
  have back : ∀ y ∈ ys, ((fun k : Nat => (k : Int)) ∘ Int.toNat) y = id y := fun y hy => by
    obtain ⟨k, rfl, _⟩ := h y hy
    rfl
  have e : ys = (ys.map Int.toNat).map fun k : Nat => (k : Int) := by rw [List.map_map, List.map_congr_left back, List.map_id]
  have lt : ∀ z ∈ ys.map Int.toNat, z < m := fun z hz => by
    obtain ⟨y, hy, rfl⟩ := List.mem_map.mp hz
    obtain ⟨n, rfl, hn⟩ := h y hy
    exact hn
  have nd : (ys.map Int.toNat).Nodup := by
    rw [e, List.pairwise_map] at srt
    refine srt.imp fun {a b} q z => ?_
    subst z
    omega
  refine ⟨ys.map Int.toNat, e, nd, lt, ?_⟩
  have := nodup_le _ (List.range m) nd fun z hz => List.mem_range.mpr (lt z hz)
  rwa [List.length_range] at this
end Tm

/-! sorted(..) of a set of ints and of a dict with int keys, up to a thousand of them -/
namespace Tm
open PySem PySem.Spec PySem.Calls PyProof.Rows L2
/-- the cells are in hand: a list is made of them and sorted -/
theorem sort_cells {X : Cx} {A : Around} {E : Value → Shared → Prop} {pins : List (Addr × Obj)} {σ : L2.St} {H : Hp} {s : Shared} {cells : List Value} {ns : List Int} {Q : VK} (inv : Inv X pins σ H s) (whole : IntsAre cells ns) (few : ns.length ≤ 1000) (same : cells.length = ns.length)
    (hand : ∀ (up : List Int) (p : Addr), up.Perm ns → up.Pairwise (· ≤ ·) → H p = none → Q (.ref p) (upd H p (.lst (up.map V.int)))) :
    wpAny (model X.prog X.w) A (newList cells >>= fun l => holding [l] (call (.builtin "list.sort") [l] []) >>= fun _ => ret l) (fun fin s' => ∃ v, fin = .done (.ret v) ∧ EP X pins σ Q v s') E s := by
  have room : cells.length ≤ sizeLine := by rw [same]; exact Nat.le_trans few (by decide)
  apply wpAny_bind
  apply wpAny_newList (hsz := room)
  have new : (s.heap.push { cls := .type "list", data := .seq cells.toArray }).get? s.heap.objs.size = some (seqObj "list" cells.toArray 0) := Heap.get?_push_size _ rfl
  have still : ∀ b o, s.heap.get? b = some o → (s.heap.push { cls := .type "list", data := .seq cells.toArray }).get? b = some o := fun b o e => Heap.get?_push_of_some _ e
  have bigger : s.heap.objs.size < (s.heap.push { cls := .type "list", data := .seq cells.toArray }).objs.size := Heap.lt_size new
  apply wpAny_bind
  apply wpAny_holding
  refine wpAny_call_entry (T := "list") slot_list_sort ⟨_, new, rfl⟩ entry_list_sort ?_ (args_list_sort _)
  refine list_sort_treeAny new whole room fun out up all order rise => ?_
  refine ⟨_, rfl, wpAny_pure ⟨_, rfl, V.ref s.heap.objs.size, upd H s.heap.objs.size (.lst (up.map V.int)), ?_, rfl, hand up _ order rise (inv.hok.fresh (Nat.le_refl _))⟩⟩
  obtain ⟨stamp, there⟩ := sortedHeap_at (out := out) new
  refine inv.laid (t' := s.toks) (fun b o e => ?_) (Nat.le_refl _) ⟨?_, out.toList, stamp, vals_of_ints all, there⟩
  · rw [sortedHeap_old (Nat.ne_of_lt (Heap.lt_size e)) (Nat.lt_trans (Heap.lt_size e) bigger)]
    exact still b o e
  · rw [List.length_map, order.length_eq]
    exact Nat.le_trans few (by decide)
def intIn : Value → Int
  | .int i _ => i
  | _ => 0
theorem ints_in : ∀ vs : List Value, (∀ v ∈ vs, ∃ i t, v = Value.int i t) → IntsAre vs (vs.map intIn)
  | [], _ => .nil
  | v :: vs, h => by
    obtain ⟨i, t, rfl⟩ := h v List.mem_cons_self
    exact .cons _ _ (ints_in vs fun u hu => h u (List.mem_cons_of_mem _ hu))
theorem rise_nodup : ∀ l : List Int, l.Pairwise (· ≤ ·) → l.Nodup → l.Pairwise (· < ·)
  | [], _, _ => .nil
  | a :: l, h, nd => by
    have h1 := List.pairwise_cons.mp h
    have h2 := List.nodup_cons.mp nd
    refine List.pairwise_cons.mpr ⟨fun b hb => ?_, rise_nodup l h1.2 h2.2⟩
    have := h1.1 b hb
    have ne : a ≠ b := fun e => h2.1 (e ▸ hb)
    omega
def rSortIS (w : World) : List V → Hp → VK → Prop := fun given H Q => ∃ (a : Addr) (S : Int → Bool) (n : Nat), given = [.ref a] ∧ H a = some (SetO w a S n) ∧ n ≤ 1000 ∧
  ∀ (up : List Int) (p : Addr), up.Pairwise (· < ·) → (∀ k : Int, k ∈ up ↔ S k = true) → up.length = n → H p = none → Q (.ref p) (upd H p (.lst (up.map V.int)))
theorem call_sortIS {X : Cx} (calm : X.calm = true) : CallR X (.builtin "sorted") (rSortIS X.w) :=
  fun pins s σ H given held Q inv rel ask => by
    obtain ⟨a, S, n, rfl, at_a, few, hand⟩ := ask
    match held, rel with
    | [_], .cons rfl .nil =>
      obtain ⟨o, es, ep, t, there, exact_, dat, good, nodup, mem, bound, fits, num, ris, led⟩ := setO_get inv at_a
      apply call_function_entry kind_sorted plain_sorted entry_sorted (args_sorted1 _)
      show wpAny _ _ (collect (.ref a) >>= fun vs => newList vs >>= fun l => holding [l] (call (.builtin "list.sort") [l] []) >>= fun _ => ret l) _ _ s
      apply wpAny_bind
      refine collect_set (es := es) (ep := ep) (t := t) (inv.ok.hd calm) ⟨o, there, exact_.1, dat⟩ fits bound ris led ?_
      intro s1 cells kept grown gens os perm
      have mid : Inv X pins σ H s1 := inv.call' (ch := []) os (Un.kept kept) (inv.hok.kept kept) (by rw [gens]; exact inv.bare) (fun b hb => by cases hb)
      have each : ∀ v ∈ cells, ∃ i u, v = Value.int i u := fun v hv => by
        obtain ⟨e, he, rfl⟩ := List.mem_map.mp (perm.mem_iff.mp hv)
        obtain ⟨k, u, is, _⟩ := good e he
        exact ⟨k, u, is⟩
      have keys : (cells.map intIn).Perm (es.toList.map keyOf) := by
        have p2 := perm.map intIn
        rw [List.map_map] at p2
        have e2 : es.toList.map (intIn ∘ fun e => e.2) = es.toList.map keyOf := List.map_congr_left fun e he => by
          obtain ⟨k, u, is, _⟩ := good e he
          show intIn e.2 = keyOf e
          unfold keyOf
          rw [is]
          rfl
        rw [e2] at p2
        exact p2
      have len : (cells.map intIn).length = n := by rw [keys.length_eq, List.length_map, Array.length_toList, num]
      refine sort_cells mid (ints_in cells each) (by omega) (by rw [List.length_map]) fun up p pm rise fresh => ?_
      refine hand up p (rise_nodup up rise ((pm.trans keys).nodup_iff.mpr nodup)) (fun k => ?_) (by rw [pm.length_eq, len]) fresh
      rw [(pm.trans keys).mem_iff, ← mem k]
theorem key_int {y : Int} {v : Value} (h : keyIs (Sum.inl y) v = true) : ∃ t, v = Value.int y t := by
  obtain ⟨i, t, same, rfl⟩ | ⟨x, t, same, rfl⟩ := keyIs_shape h
  · exact ⟨t, by rw [Sum.inl.inj same]⟩
  · cases same
def rSortID : List V → Hp → VK → Prop := fun given H Q => ∃ (a : Addr) (kvs : List (Key × V)) (ks : List Int), given = [.ref a] ∧ H a = some (.dK kvs) ∧ kvs.map (·.1) = ks.map Sum.inl ∧ ks.length ≤ 1000 ∧
  ∀ (up : List Int) (p : Addr), up.Perm ks → up.Pairwise (· ≤ ·) → H p = none → Q (.ref p) (upd H p (.lst (up.map V.int)))
theorem call_sortID {X : Cx} (calm : X.calm = true) : CallR X (.builtin "sorted") rSortID :=
  fun pins s σ H given held Q inv rel ask => by
    obtain ⟨a, kvs, ks, rfl, at_a, keys, few, hand⟩ := ask
    match held, rel with
    | [_], .cons rfl .nil =>
      obtain ⟨z, low, vs, pairs, dd⟩ := dk_rd inv.hok (Or.inl at_a)
      obtain ⟨ep, stands⟩ := dd.dictAt
      have names : vs.map (·.1) = ks.map Sum.inl := pairs.keys.symm.trans keys
      have num : vs.length = ks.length := by
        have e := congrArg List.length names
        simpa using e
      apply call_function_entry kind_sorted plain_sorted entry_sorted (args_sorted1 _)
      show wpAny _ _ (collect (.ref a) >>= fun vs => newList vs >>= fun l => holding [l] (call (.builtin "list.sort") [l] []) >>= fun _ => ret l) _ _ s
      apply wpAny_bind
      refine PySem.W.kdu_collect (PySem.W.kdl_dict (knd := mixKind X.prog X.w) (kvs := vs) (ep := ep) low) (inv.ok.hd calm) stands (by rw [num]; exact Nat.le_trans few (by decide)) ?_
      intro h' tk acc kept items
      have cellsAre : IntsAre acc.toList ks := by
        refine ints_each (by rw [Array.length_toList, items.1, num]) ?_
        intro j v at_j
        obtain ⟨k, x, here, is⟩ := items.2 j v (Eq.trans Array.getElem?_toList.symm at_j)
        have kj : (ks.map Sum.inl)[j]? = some k := by
          rw [← names, List.getElem?_map, here]
          rfl
        obtain ⟨y, hy, rfl⟩ : ∃ y, ks[j]? = some y ∧ (Sum.inl y : Key) = k := by simpa using kj
        obtain ⟨t, rfl⟩ := key_int is
        exact ⟨y, t, hy, rfl⟩
      have mid : Inv X pins σ H { s with heap := h', toks := tk } := inv.kept kept
      exact sort_cells mid cellsAre few (by rw [Array.length_toList, items.1, num]) hand
end Tm

/-! equations modulo two: one answer for one question -/
namespace Tm
open PySem PySem.Spec PyProof.Rows L2 Tm.Gauss
inductive RowEnds (f : Nat → Option Rw) : Rw → Rw → Prop
  | stop {r : Rw} (h : f (bl r.q.u) = none) : RowEnds f r r
  | step {r t r' : Rw} (h : f (bl r.q.u) = some t) (e : RowEnds f (r.add t) r') : RowEnds f r r'
theorem RowEnds.one {f : Nat → Option Rw} {r a b : Rw} (h : RowEnds f r a) (g : RowEnds f r b) : a = b := by
  induction h with
  | stop h =>
    cases g with
    | stop _ => rfl
    | step h2 _ => rw [h] at h2; cases h2
  | step h e ih =>
    cases g with
    | stop h2 => rw [h] at h2; cases h2
    | step h2 e2 =>
      rw [h] at h2
      cases h2
      exact ih e2
/-- the rows behind the first i equations -/
inductive Behind (g : Nat → Eqn) : Nat → (Nat → Option Rw) → Prop
  | nil : Behind g 0 (fun _ => none)
  | more {i : Nat} {f : Nat → Option Rw} {r : Rw} (b : Behind g i f) (e : RowEnds f ⟨g i, 2 ^ i⟩ r) (nz : r.q.u ≠ 0) : Behind g (i + 1) (put f r)
  | same {i : Nat} {f : Nat → Option Rw} {r : Rw} (b : Behind g i f) (e : RowEnds f ⟨g i, 2 ^ i⟩ r) (z : r.q.u = 0) (v : r.q.v = false) : Behind g (i + 1) f
theorem Behind.one {g : Nat → Eqn} {i : Nat} {f f' : Nat → Option Rw} (h : Behind g i f) (k : Behind g i f') : f = f' := by
  induction h generalizing f' with
  | nil =>
    cases k
    rfl
  | more b e nz ih =>
    cases k with
    | more b2 e2 nz2 =>
      cases ih b2
      rw [e.one e2]
    | same b2 e2 z v =>
      cases ih b2
      rw [e.one e2] at nz
      exact absurd z nz
  | same b e z v ih =>
    cases k with
    | more b2 e2 nz2 =>
      cases ih b2
      rw [e.one e2] at z
      exact absurd z nz2
    | same b2 e2 z2 v2 => exact ih b2
theorem Behind.at {g : Nat → Eqn} {n : Nat} {f : Nat → Option Rw} (h : Behind g n f) : ∀ i, i < n → ∃ f' r, Behind g i f' ∧ RowEnds f' ⟨g i, 2 ^ i⟩ r ∧ (r.q.u ≠ 0 ∨ r.q.v = false) := by
  induction h with
  | nil => exact fun i hi => absurd hi (Nat.not_lt_zero i)
  | @more j f r b e nz ih =>
    intro i hi
    by_cases l : i < j
    · exact ih i l
    · have e1 : i = j := by omega
      subst e1
      exact ⟨f, r, b, e, .inl nz⟩
  | @same j f r b e z v ih =>
    intro i hi
    by_cases l : i < j
    · exact ih i l
    · have e1 : i = j := by omega
      subst e1
      exact ⟨f, r, b, e, .inr v⟩
def OnesIs (N : Nat) (f : Nat → Option Rw) (S : Nat) : Prop := ∃ Ls : List Nat, Ls.Pairwise (· < ·) ∧ (∀ L, L ∈ Ls ↔ ∃ r, f L = some r) ∧ S = Ls.foldl (stepOne N f) 0
theorem rise_nat {a b : List Nat} (ha : a.Pairwise (· < ·)) (hb : b.Pairwise (· < ·)) (h : ∀ z, z ∈ a ↔ z ∈ b) : a = b := by
  have lift : ∀ {l : List Nat}, l.Pairwise (· < ·) → (l.map fun z : Nat => (z : Int)).Pairwise (· < ·) := fun hl => List.pairwise_map.mpr (hl.imp fun q => by omega)
  have go : ∀ l m : List Int, l.Pairwise (· < ·) → m.Pairwise (· < ·) → (∀ z, z ∈ l ↔ z ∈ m) → l = m := by
    intro l
    induction l with
    | nil =>
      intro m _ _ h
      cases m with
      | nil => rfl
      | cons b m => exact absurd ((h b).mpr List.mem_cons_self) List.not_mem_nil
    | cons x l ih =>
      intro m hl hm h
      cases m with
      | nil => exact absurd ((h x).mp List.mem_cons_self) List.not_mem_nil
      | cons y m =>
        have pl := List.pairwise_cons.mp hl
        have pm := List.pairwise_cons.mp hm
        have e : x = y := by
          rcases List.mem_cons.mp ((h x).mp List.mem_cons_self) with q | q
          · exact q
          · rcases List.mem_cons.mp ((h y).mpr List.mem_cons_self) with r | r
            · exact r.symm
            · have := pm.1 x q
              have := pl.1 y r
              omega
        subst e
        rw [ih m pl.2 pm.2 fun z => ⟨fun hz => (List.mem_cons.mp ((h z).mp (List.mem_cons_of_mem _ hz))).elim (fun q => by have := pl.1 z hz; omega) id, fun hz => (List.mem_cons.mp ((h z).mpr (List.mem_cons_of_mem _ hz))).elim (fun q => by have := pm.1 z hz; omega) id⟩]
  have e := go _ _ (lift ha) (lift hb) fun z => by
    constructor
    · intro hz
      obtain ⟨k, hk, rfl⟩ := List.mem_map.mp hz
      exact List.mem_map.mpr ⟨k, (h k).mp hk, rfl⟩
    · intro hz
      obtain ⟨k, hk, rfl⟩ := List.mem_map.mp hz
      exact List.mem_map.mpr ⟨k, (h k).mpr hk, rfl⟩
  have back := congrArg (List.map Int.toNat) e
  rw [List.map_map, List.map_map, show Int.toNat ∘ (fun k : Nat => (k : Int)) = id from rfl, List.map_id, List.map_id] at back
  exact back
theorem OnesIs.one {N : Nat} {f : Nat → Option Rw} {S S' : Nat} (h : OnesIs N f S) (k : OnesIs N f S') : S = S' := by
  obtain ⟨a, ha, ma, rfl⟩ := h
  obtain ⟨b, hb, mb, rfl⟩ := k
  rw [rise_nat ha hb fun z => (ma z).trans (mb z).symm]
/-- what solve tells: a solution's number, or the number of the equations of a contradiction -/
def Told (N : Nat) (g : Nat → Eqn) (n : Nat) : Nat ⊕ Nat → Prop
  | .inl S => ∃ f, Behind g n f ∧ OnesIs N f S
  | .inr c => ∃ i f r, i < n ∧ Behind g i f ∧ RowEnds f ⟨g i, 2 ^ i⟩ r ∧ r.q.u = 0 ∧ r.q.v = true ∧ c = r.c
theorem Behind.not {g : Nat → Eqn} {n i : Nat} {f f' : Nat → Option Rw} {r : Rw} (b : Behind g n f) (l : i < n) (b' : Behind g i f') (e : RowEnds f' ⟨g i, 2 ^ i⟩ r) (z : r.q.u = 0) (v : r.q.v = true) : False := by
  obtain ⟨f2, r2, b2, e2, h⟩ := b.at i l
  cases b2.one b'
  cases e2.one e
  rcases h with h | h
  · exact h z
  · rw [v] at h; cases h
theorem Told.one {N : Nat} {g : Nat → Eqn} {n : Nat} {a b : Nat ⊕ Nat} (h : Told N g n a) (k : Told N g n b) : a = b := by
  cases a with
  | inl S =>
    obtain ⟨f, bf, os⟩ := h
    cases b with
    | inl S' =>
      obtain ⟨f', bf', os'⟩ := k
      cases bf.one bf'
      rw [os.one os']
    | inr c =>
      obtain ⟨i, f', r, l, b', e, z, v, _⟩ := k
      exact (bf.not l b' e z v).elim
  | inr c =>
    obtain ⟨i, f, r, l, bf, e, z, v, rfl⟩ := h
    cases b with
    | inl S' =>
      obtain ⟨f', bf', _⟩ := k
      exact (bf'.not l bf e z v).elim
    | inr c' =>
      obtain ⟨i', f', r', l', bf', e', z', v', rfl⟩ := k
      rcases Nat.lt_trichotomy i i' with q | q | q
      · exact (bf'.not q bf e z v).elim
      · subst q
        cases bf.one bf'
        rw [e.one e']
      · exact (bf.not q bf' e' z' v').elim
/-! ### promises -/
def spTopsE (K : PySem.W.Frag) : Sp := fun vs H Q _ => ∃ (N : Nat) (g : Nat → Eqn) (n k0 k : Nat) (p d : Addr) (es : List Ent) (r0 : Rw), vs = [.ref p, .ref d] ∧ SqT K H p (rowT r0) ∧ DRows H d es ∧ Kept N g n k0 (rowAt es) ∧ k0 ≤ k ∧ r0.fair g n k ∧
  ∀ H' q r, Same H H' → H q = none → H' q = some (.tup (rowT r)) → Reach N g n k (rowAt es) r0 r → entAt es (bl r.q.u) = none → RowEnds (rowAt es) r0 r → Q (.ref q) H'
structure GoodW (N : Nat) (g : Nat → Eqn) (n k : Nat) (es : List Ent) : Prop where
  kept : Kept N g n k (rowAt es)
  uniq : (es.map fun e => e.1).Nodup
  few : es.length ≤ 400
  wide : ∀ e ∈ es, e.1 ≤ N
def spOnesE : Sp := fun vs H Q _ => ∃ (N : Nat) (g : Nat → Eqn) (n k : Nat) (d : Addr) (es : List Ent), vs = [.ref d] ∧ DRows H d es ∧ GoodW N g n k es ∧ N ≤ 1000 ∧
  ∀ H' p S, Same H H' → H p = none → H' p = some (.lst ((bitsL (bl S) S).map nv)) → S < 2 ^ N → (∀ i, i < k → sat N S (g i)) → OnesIs N (rowAt es) S → Q (.ref p) H'
def spNumWE (K : PySem.W.Frag) : Sp := fun vs H Q _ => ∃ (p : Addr) (ps : List Nat), vs = [.ref p] ∧ (SqL K H p (ps.map nv) ∨ SqT K H p (ps.map nv)) ∧ (∀ z ∈ ps, z ≤ 1000) ∧ Q (nv (numL ps)) H
/-- equations in memory; tu: the unknowns stand in a tuple -/
structure EqsG (tu : Bool) (H : Hp) (qs : List Addr) (eqs : List (List Nat × Bool)) : Prop where
  len : qs.length = eqs.length
  at_ : ∀ (i : Nat) (q : Addr) (e : List Nat × Bool), qs[i]? = some q → eqs[i]? = some e → ∃ u, H q = some (.tup [.ref u, nv e.2.toNat]) ∧ H u = some (if tu then .tup (e.1.map nv) else .lst (e.1.map nv))
theorem EqsG.same {tu : Bool} {H H' : Hp} {qs : List Addr} {eqs : List (List Nat × Bool)} (h : EqsG tu H qs eqs) (s : Same H H') : EqsG tu H' qs eqs :=
  ⟨h.len, fun i q e hq he => let ⟨u, h1, h2⟩ := h.at_ i q e hq he; ⟨u, s _ _ h1, s _ _ h2⟩⟩
theorem EqsAt.g {H : Hp} {qs : List Addr} {eqs : List (List Nat × Bool)} (h : EqsAt H qs eqs) : EqsG false H qs eqs := ⟨h.len, h.at_⟩
def wordA : Nat ⊕ Nat → Str
  | .inl _ => sSol
  | .inr _ => sCon
def numA : Nat ⊕ Nat → Nat
  | .inl S => S
  | .inr c => c
def RightA (N : Nat) (eqs : List (List Nat × Bool)) : Nat ⊕ Nat → Prop
  | .inl S => S < 2 ^ N ∧ ∀ i, i < eqs.length → sat N S (gOf eqs i)
  | .inr c => c < 2 ^ eqs.length ∧ (comb (gOf eqs) eqs.length c).u = 0 ∧ (comb (gOf eqs) eqs.length c).v = true
def AnsAt (H : Hp) (t : Addr) (a : Nat ⊕ Nat) : Prop := ∃ b, H t = some (.tup [.str (wordA a), .ref b]) ∧ H b = some (.lst ((bitsL (bl (numA a)) (numA a)).map nv))
theorem AnsAt.same {H H' : Hp} {t : Addr} {a : Nat ⊕ Nat} (h : AnsAt H t a) (s : Same H H') : AnsAt H' t a := let ⟨b, h1, h2⟩ := h; ⟨b, s _ _ h1, s _ _ h2⟩
def spSolveE (K : PySem.W.Frag) : Sp := fun vs H Q _ => ∃ (N : Nat) (p : Addr) (c : V) (tu : Bool) (qs : List Addr) (eqs : List (List Nat × Bool)), vs = [.ref p, c] ∧ (SqL K H p (qs.map V.ref) ∨ SqT K H p (qs.map V.ref)) ∧ EqsG tu H qs eqs ∧ eqs.length ≤ 400 ∧ N ≤ 900 ∧ (∀ e ∈ eqs, ∀ z ∈ e.1, z < N) ∧
  ∀ H' t a, Same H H' → H t = none → AnsAt H' t a → RightA N eqs a → Told N (gOf eqs) eqs.length a → Q (.ref t) H'
end Tm

namespace T40
open PySem PySem.Spec PyProof.Rows L2 Tm
def topS (i : Nat) : Stmt := PySem.Challenge.pw_threadmark_k40_equations_modulo_two.main.body.getD i (.Pass ⟨0, 0, 0, 0⟩)
abbrev sBag : Stmt := topS 7
abbrev sPull : Stmt := topS 8
abbrev sOf : Stmt := topS 9
theorem scBag : FnScope ["_law_script", "_law_salt", "_law_cell"] ["_law_script"] (defScope sBag) := ⟨rfl, rfl, rfl, by decide +kernel, rfl, by decide +kernel, by decide +kernel⟩
theorem scPull : FnScope ["_law_bag_here", "_law_many", "_law_cell", "_law_digit", "_law_square"] ["_law_bag_here", "_law_many"] (defScope sPull) := ⟨rfl, rfl, rfl, by decide +kernel, rfl, by decide +kernel, by decide +kernel⟩
theorem scOf : FnScope ["_law_bag_here", "_law_things"] ["_law_bag_here", "_law_things"] (defScope sOf) := ⟨rfl, rfl, rfl, by decide +kernel, rfl, by decide +kernel, by decide +kernel⟩
section
variable {P : Program} {w : World} {K : PySem.W.Frag} {mg : Str → Option Value} {base : Heap}
theorem ok_bag {f : Addr} {fd : FuncData} (F : Fun K "_law_bag" "_law_bag" sBag f fd) (ml : mg "list" = none) : FnOk P w K mg base CX0 1 f fd ["_law_script"] (spBag K) := by
  refine F.ok scBag (fun vs H Q E h => ?_) (fun cdv A outer s H vs Q E hr h => ?_)
  · obtain ⟨a, ns, rfl, _⟩ := h
    rfl
  · obtain ⟨a, ns, rfl, hS, q⟩ := h
    refine ⟨_, pss_cons (ps_set (i := 1) scBag.nd rfl (.inl rfl) pe_int)
      (pss_cons (ps_for PassesOwn.never rfl (pi_list (pe_slice sl_list (pv 0) po_none (po_some pe_int))) (pg_name (i := 2) scBag.nd rfl (.inl rfl))
        (pss_one (ps_set (i := 1) scBag.nd rfl (.inl rfl) (pe_op op_mod (pe_op op_add (pe_op op_add (pe_op op_mul (pv 1) pe_int) (pe_op op_mod (pv 2) pe_int)) pe_int) pe_int))))
      (pss_one (ps_ret (pe_lst (pa_cons (pe_callTy call_list_of (by rfl) ml boot_list (pa_cons (pe_slice sl_list (pv 0) po_none (po_some pe_int)) pa_nil)) (pa_cons pe_int (pa_cons pe_int (pa_cons (pv 1) pa_nil)))))))), ?_⟩
    refine ⟨.ref a, rfl, 63, rfl, a, ns.map V.int, rfl, hS, fun p np => ?_⟩
    have s1 : Same H (upd H p (.lst (cutV (ns.map V.int) none (some 63)))) := same_upd np
    refine ⟨p, rfl, ⟨_, .inl (.inl upd_same)⟩, for_list (K := K) (a := p) (xs := cutV (ns.map V.int) none (some 63))
      (fun i σ H' => ∃ (z : Int) (y : Option V), σ = [some (.ref a), some (.int z), y] ∧ 0 ≤ z ∧ z < 2147483549 ∧ H' = upd H p (.lst (cutV (ns.map V.int) none (some 63)))) ⟨3808, none, rfl, by decide, by decide, rfl⟩
      (fun i σ H' _ ⟨_, _, _, _, _, e⟩ => by rw [e]; exact .inl (.inl upd_same)) ?_ ?_⟩
    · rintro i y σ H' hi ⟨z, y0, rfl, h0, h1, rfl⟩
      obtain ⟨u, rfl⟩ := cut_int hi
      refine ⟨_, rfl, _, _, rfl, rfl, .inl ⟨by omega, by omega⟩, _, rfl, _, _, rfl, rfl, (by dsimp only; decide), _, _, rfl, rfl, _, _, rfl, rfl, _, _, rfl, rfl, (by dsimp only; decide), ?_⟩
      refine ⟨_, _, rfl, Int.emod_nonneg _ (by decide), Int.emod_lt_of_pos _ (by decide), rfl⟩
    · rintro σ H' ⟨z, y0, rfl, h0, h1, rfl⟩
      refine ⟨.ref a, rfl, 63, rfl, a, ns.map V.int, rfl, s1.seq hS, fun p2 np2 => ?_⟩
      refine ⟨p2, _, rfl, .inl (.inl (.inl upd_same)), fun l nl => ?_⟩
      refine ⟨.int z, rfl, (by show 4 ≤ sizeLine; decide), fun b nb => ?_⟩
      have e2 := (same_upd (o := .lst (cutV (ns.map V.int) none (some 63))) np2)
      have e3 := (same_upd (o := .lst (cutV (ns.map V.int) none (some 63))) nl)
      have e4 := (same_upd (o := .lst [.ref l, .int 0, .int 0, .int z]) nb)
      have f4 := ((s1.trans e2).trans e3).free nb
      have f3 := (s1.trans e2).free nl
      obtain ⟨ms, em⟩ := cut_ints ns none (some 63)
      refine q _ b l (((s1.trans e2).trans e3).trans e4) f4 f3 ⟨ms, 0, 0, z, upd_same, ?_, by decide, by decide, h0, h1⟩
      rw [← em]
      exact e4 _ _ upd_same

theorem ok_pull {f : Addr} {fd : FuncData} (F : Fun K "_law_pull" "_law_pull" sPull f fd) (ml : mg "len" = none) : FnOk P w K mg base CX0 1 f fd ["_law_bag_here", "_law_many"] spPull := by
  refine F.ok scPull (fun vs H Q E h => ?_) (fun cdv A outer s H vs Q E hr h => ?_)
  · obtain ⟨b, l, m, rfl, _⟩ := h
    rfl
  · obtain ⟨b, l, m, rfl, B, hm0, hm1, q⟩ := h
    refine ⟨_, pss_cons (ps_if (PW.pt (pw_and (pt_cmpR op_lt (pe_ix ix_list (pv 0) pe_int (fun _ _ => rfl)) (pv 1) (nomark _)) (pw_and1 (pt_cmpR op_lt (pe_ix ix_list (pv 0) pe_int (fun _ _ => rfl)) (pe_callB call_len_seq (by rfl) ml PySem.boot_len (pa_cons (pe_ix ix_list (pv 0) pe_int (fun _ _ => rfl)) pa_nil)) (nomark _)))))
        (pss_cons (ps_set (i := 2) scPull.nd rfl (.inl rfl) (pe_ix ix_list (pe_ix ix_list (pv 0) pe_int (fun _ _ => rfl)) (pe_ix ix_list (pv 0) pe_int (fun _ _ => rfl)) (fun _ _ => rfl)))
        (pss_cons (ps_asg (pe_op op_add (pe_ix ix_list (pv 0) pe_int (fun _ _ => rfl)) pe_int) (pg_sub (pv 0) pe_int set_list))
        (pss_cons (ps_asg pe_int (pg_sub (pv 0) pe_int set_list))
        (pss_one (ps_if (pt_cmpR op_ge (pv 2) (pe_op op_pow pe_int pe_int) (nomark _)) (pss_one (ps_asg (pv 2) (pg_sub (pv 0) pe_int set_list)))
          (pss_one (ps_asg (pe_op op_mod (pe_op op_add (pe_op op_add (pe_op op_mul (pe_ix ix_list (pv 0) pe_int (fun _ _ => rfl)) pe_int) (pe_op op_mul (pe_op op_mod (pv 2) pe_int) pe_int)) pe_int) pe_int) (pg_sub (pv 0) pe_int set_list))))))))
        pss_nil)
      (pss_cons (ps_if (pt_cmpR op_ge (pe_ix ix_list (pv 0) pe_int (fun _ _ => rfl)) (pv 1) (nomark _))
        (pss_cons (ps_set (i := 3) scPull.nd rfl (.inl rfl) (pe_op op_mod (pe_ix ix_list (pv 0) pe_int (fun _ _ => rfl)) (pv 1)))
        (pss_cons (ps_asg (pe_op op_fdiv (pe_ix ix_list (pv 0) pe_int (fun _ _ => rfl)) (pv 1)) (pg_sub (pv 0) pe_int set_list))
        (pss_one (ps_ret (pv 3))))) pss_nil)
      (pss_cons (ps_set (i := 4) scPull.nd rfl (.inl rfl) (pe_op op_mod (pe_op op_mul (pe_ix ix_list (pv 0) pe_int (fun _ _ => rfl)) (pe_ix ix_list (pv 0) pe_int (fun _ _ => rfl))) pe_int))
      (pss_cons (ps_asg (pe_op op_mod (pe_op op_add (pe_op op_add (pe_op op_mul (pv 4) pe_int) (pe_op op_mul (pe_ix ix_list (pv 0) pe_int (fun _ _ => rfl)) pe_int)) pe_int) pe_int) (pg_sub (pv 0) pe_int set_list))
      (pss_one (ps_ret (pe_op op_mod (pe_op op_add (pe_op op_fdiv (pe_ix ix_list (pv 0) pe_int (fun _ _ => rfl)) pe_int) (pe_op op_mul (pe_op op_mod (pe_ix ix_list (pv 0) pe_int (fun _ _ => rfl)) pe_int) pe_int)) (pv 1))))))), ?_⟩
    refine cut (fun σ' H' => ∃ y, σ' = [some (.ref b), some (.int m), y, none, none] ∧ Bag H' b l ∧ Kp b H H') (fun σ1 H1 hp => ?tail) (fun N hN => ?head)
    case head =>
      obtain ⟨xs, i, n, z, hb, hl, i0, n0, z0, z1⟩ := id B
      have nlb := bag_ne hb hl
      refine ⟨_, rfl, b, _, 2, .int n, rfl, rfl, SqL.of hb, rfl, _, rfl, _, _, rfl, rfl, _, rfl, ite2 (fun hlt => ?_) (fun _ => ?_)⟩
      · refine ⟨_, rfl, b, _, 1, .int i, rfl, rfl, SqL.of hb, rfl, _, rfl, b, _, 0, .ref l, rfl, rfl, SqL.of hb, rfl, l, _, rfl, .inl (SqL.of hl), _, _, rfl, rfl, _, rfl, ite2 (fun hlt2 => ?_) (fun _ => ?_)⟩
        · have hi : i < ((xs.map V.int).length : Int) := of_decide_eq_true hlt2
          rw [List.length_map] at hi
          obtain ⟨j, rfl⟩ : ∃ j : Nat, i = j := ⟨i.toNat, by omega⟩
          have hj : j < xs.length := by omega
          have gj : (xs.map V.int)[j]? = some (.int xs[j]) := by
            rw [List.getElem?_map, List.getElem?_eq_getElem hj]; rfl
          generalize xs[j] = c at gj
          refine ⟨_, rfl, b, _, 0, .ref l, rfl, rfl, SqL.of hb, rfl, _, rfl, b, _, 1, .int j, rfl, rfl, SqL.of hb, rfl, l, _, j, .int c, rfl, rfl, SqL.of hl, atI_nat gj, ?_⟩
          refine ⟨_, rfl, b, _, 1, .int j, rfl, rfl, SqL.of hb, rfl, _, _, rfl, rfl, _, rfl, b, _, 1, 1, rfl, rfl, hb, rfl, ?_⟩
          refine ⟨_, rfl, b, _, 2, 2, rfl, rfl, upd_same, rfl, ?_⟩
          rw [upd_upd]
          refine ⟨_, rfl, _, _, rfl, rfl, ⟨by decide, by decide, by decide⟩, _, _, rfl, rfl, _, rfl, ite2 (fun hge => ?_) (fun _ => ?_)⟩
          · refine ⟨_, rfl, _, rfl, b, _, 2, 2, rfl, rfl, upd_same, rfl, ?_⟩
            rw [upd_upd]
            refine hN _ _ ⟨_, rfl, ⟨xs, _, _, _, upd_same, by rw [upd_ne nlb]; exact hl, by omega, ?_, z0, z1⟩, Kp.set⟩
            have e := of_decide_eq_true hge
            have e2 : (0 : Int) ≤ 10 ^ (18 : Int).toNat := by decide
            omega
          · refine ⟨_, rfl, b, _, 3, .int z, rfl, rfl, SqL.of upd_same, rfl, _, _, rfl, rfl, .inl ⟨by omega, by omega⟩, _, rfl, _, _, rfl, rfl, (by dsimp only; decide), _, _, rfl, rfl, .inr ⟨by decide, by decide⟩, _, _, rfl, rfl, _, _, rfl, rfl, _, _, rfl, rfl, (by dsimp only; decide), _, rfl, b, _, 3, 3, rfl, rfl, upd_same, rfl, ?_⟩
            rw [upd_upd]
            exact hN _ _ ⟨_, rfl, ⟨xs, _, _, _, upd_same, by rw [upd_ne nlb]; exact hl, by omega, by decide, Int.emod_nonneg _ (by decide), Int.emod_lt_of_pos _ (by decide)⟩, Kp.set⟩
        · exact hN _ _ ⟨_, rfl, B, Kp.refl _ _⟩
      · exact hN _ _ ⟨_, rfl, B, Kp.refl _ _⟩
    case tail =>
      obtain ⟨y, rfl, ⟨xs, i, n, z, hb, hl, i0, n0, z0, z1⟩, kp⟩ := hp
      have nlb := bag_ne hb hl
      refine ⟨_, rfl, b, _, 2, .int n, rfl, rfl, SqL.of hb, rfl, _, rfl, _, _, rfl, rfl, _, rfl, ite2 (fun hge => ?_) (fun _ => ?_)⟩
      · refine ⟨_, rfl, b, _, 2, .int n, rfl, rfl, SqL.of hb, rfl, _, rfl, _, _, rfl, rfl, hm0, ?_⟩
        refine ⟨_, rfl, b, _, 2, .int n, rfl, rfl, SqL.of hb, rfl, _, rfl, _, _, rfl, rfl, ⟨hm0, hm1⟩, _, rfl, b, _, 2, 2, rfl, rfl, hb, rfl, ?_⟩
        refine ⟨_, rfl, ?_⟩
        exact q _ _ (kp.trans Kp.set) ⟨xs, _, _, _, upd_same, by rw [upd_ne nlb]; exact hl, i0, Int.ediv_nonneg n0 (by omega), z0, z1⟩ (Int.emod_nonneg _ (by omega)) (Int.emod_lt_of_pos _ hm0)
      · refine ⟨_, rfl, b, _, 3, .int z, rfl, rfl, SqL.of hb, rfl, _, rfl, b, _, 3, .int z, rfl, rfl, SqL.of hb, rfl, _, _, rfl, rfl, .inl ⟨by omega, by omega⟩, _, _, rfl, rfl, (by dsimp only; decide), ?_⟩
        have w0 : 0 ≤ z * z % 2147483549 := Int.emod_nonneg _ (by decide)
        have w1 : z * z % 2147483549 < 2147483549 := Int.emod_lt_of_pos _ (by decide)
        refine ⟨_, rfl, _, _, rfl, rfl, .inl ⟨by omega, by omega⟩, _, rfl, b, _, 3, .int z, rfl, rfl, SqL.of hb, rfl, _, _, rfl, rfl, .inl ⟨by omega, by omega⟩, _, _, rfl, rfl, _, _, rfl, rfl, _, _, rfl, rfl, (by dsimp only; decide), _, rfl, b, _, 3, 3, rfl, rfl, hb, rfl, ?_⟩
        refine ⟨_, rfl, b, _, 3, _, rfl, rfl, SqL.of upd_same, rfl, _, _, rfl, rfl, ⟨by decide, by decide⟩, _, rfl, b, _, 3, _, rfl, rfl, SqL.of upd_same, rfl, _, _, rfl, rfl, (by dsimp only; decide), _, _, rfl, rfl, .inr ⟨by decide, by decide⟩, _, _, rfl, rfl, _, rfl, _, _, rfl, rfl, hm0, ?_⟩
        exact q _ _ (kp.trans Kp.set) ⟨xs, _, _, _, upd_same, by rw [upd_ne nlb]; exact hl, i0, n0, Int.emod_nonneg _ (by decide), Int.emod_lt_of_pos _ (by decide)⟩ (Int.emod_nonneg _ (by omega)) (Int.emod_lt_of_pos _ hm0)
end

abbrev sMixed : Stmt := topS 10
theorem scMixed : FnScope ["_law_bag_here", "_law_things", "_law_left", "_law_found", "_law_turn"] ["_law_bag_here", "_law_things"] (defScope sMixed) := ⟨rfl, rfl, rfl, by decide +kernel, rfl, by decide +kernel, by decide +kernel⟩
section
variable {P : Program} {w : World} {K : PySem.W.Frag} {mg : Str → Option Value} {base : Heap}
theorem ok_of {f fP : Addr} {fd fdP : FuncData} (F : Fun K "_law_of" "_law_of" sOf f fd) (FP : Fun K "_law_pull" "_law_pull" sPull fP fdP) (bP : Binds K fdP ["_law_bag_here", "_law_many"] []) (gP : mg "_law_pull" = some (.ref fP)) (ml : mg "len" = none) : FnOk P w K mg base CX0 2 f fd ["_law_bag_here", "_law_things"] (spOf K) := by
  have GP : FnOk P w K mg base CX0 1 fP fdP ["_law_bag_here", "_law_many"] spPull := ok_pull FP ml
  refine F.ok scOf (fun vs H Q E h => ?_) (fun cdv A outer s H vs Q E hr h => ?_)
  · obtain ⟨b, l, t, xs, rfl, _⟩ := h
    rfl
  · obtain ⟨b, l, t, xs, rfl, B, hT, h0, h1, q⟩ := h
    refine ⟨_, pss_one (ps_ret (pe_ix ix_seq (pv 1) (pe_call GP hr (by rfl) gP FP.kp bP .nil pass0 (pa_cons (pv 0) (pa_cons (pe_callB call_len (by rfl) ml PySem.boot_len (pa_cons (pv 1) pa_nil)) pa_nil))) (fun _ _ => rfl))), ?_⟩
    rcases hT with ⟨a, rfl, nab, hS⟩ | ⟨z, rfl, hz, rfl⟩
    · refine ⟨_, rfl, _, rfl, _, rfl, _, _, rfl, .inl ⟨_, hS, rfl⟩, b, l, _, rfl, B, by omega, by omega, fun H' d kp B' d0 d1 => ?_⟩
      obtain ⟨j, rfl⟩ : ∃ j : Nat, d = j := ⟨d.toNat, by omega⟩
      have hj : j < xs.length := by omega
      exact .inl ⟨a, xs, _, xs[j], rfl, rfl, kp.seq nab hS, atI_nat (List.getElem?_eq_getElem hj), q _ _ kp B' (List.getElem_mem hj)⟩
    · rw [List.length_map, Array.length_toList] at h0 h1
      refine ⟨_, rfl, _, rfl, _, rfl, _, _, rfl, ⟨hz, rfl⟩, b, l, _, rfl, B, ?_, ?_, fun H' d kp B' d0 d1 => ?_⟩
      · show (0 : Int) < ((z.cps.size : Nat) : Int)
        omega
      · show ((z.cps.size : Nat) : Int) < 1073741824
        omega
      · have d2 : d < ((z.cps.size : Nat) : Int) := d1
        obtain ⟨j, rfl⟩ : ∃ j : Nat, d = j := ⟨d.toNat, by omega⟩
        have hj : j < z.cps.toList.length := by rw [Array.length_toList]; omega
        refine .inr (.inr ⟨z, _, z.cps.toList[j], rfl, rfl, hz, atI_nat (List.getElem?_eq_getElem hj), q _ _ kp B' ?_⟩)
        exact List.mem_map.mpr ⟨_, List.getElem_mem hj, rfl⟩
theorem ok_mixed {f fP : Addr} {fd fdP : FuncData} (F : Fun K "_law_mixed" "_law_mixed" sMixed f fd) (FP : Fun K "_law_pull" "_law_pull" sPull fP fdP) (bP : Binds K fdP ["_law_bag_here", "_law_many"] []) (gP : mg "_law_pull" = some (.ref fP)) (ml : mg "len" = none)
    (mli : mg "list" = none) (mr : mg "range" = none) : FnOk P w K mg base CX0 2 f fd ["_law_bag_here", "_law_things"] (spMixed K) := by
  have GP : FnOk P w K mg base CX0 1 fP fdP ["_law_bag_here", "_law_many"] spPull := ok_pull FP ml
  refine F.ok scMixed (fun vs H Q E h => ?_) (fun cdv A outer s H vs Q E hr h => ?_)
  · obtain ⟨b, l, a, xs, rfl, _⟩ := h
    rfl
  · obtain ⟨b, l, a, xs, rfl, B, nab, hS, hlen, q⟩ := h
    refine ⟨_, pss_cons (ps_par (i := 2) (j := 3) (by rfl) scMixed.nd rfl rfl (by decide) rfl rfl (pa_cons (pe_callTy call_list_of (by rfl) mli boot_list (pa_cons (pv 1) pa_nil)) (pa_cons (pe_lst pa_nil) pa_nil)) (by rfl))
      (pss_cons (ps_for PassesOwn.never rfl (pi_range1 (by rfl) mr (pa_cons (pe_callB call_len_seq (by rfl) ml PySem.boot_len (pa_cons (pv 1) pa_nil)) pa_nil)) (pg_name (i := 4) scMixed.nd rfl (.inl rfl))
        (pss_one (ps_expr (pe_bm PySem.F.plainAttrs_list PySem.F.slot_list_append PySem.F.type_list_append mt_append (pv 3) (pa_cons (pe_bm PySem.F.plainAttrs_list PySem.F.slot_list_pop PySem.F.type_list_pop mt_popAt (pv 2)
          (pa_cons (pe_call GP hr (by rfl) gP FP.kp bP .nil pass0 (pa_cons (pv 0) (pa_cons (pe_callB call_len_seq (by rfl) ml PySem.boot_len (pa_cons (pv 2) pa_nil)) pa_nil))) pa_nil)) pa_nil)))))
      (pss_one (ps_ret (pv 3)))), ?_⟩
    refine ⟨_, rfl, a, xs, rfl, .inl hS, fun p np => ⟨Nat.zero_le _, fun o no => ⟨_, _, rfl, ?_⟩⟩⟩
    have npo : p ≠ o := fun e => by rw [e] at no; rw [← e, upd_same] at no; cases no
    have no0 : H o = none := by rw [upd_ne npo.symm] at no; exact no
    have k2 : Kp b H (upd (upd H p (.lst xs)) o (.lst [])) := (Kp.new np).put no0
    have B2 : Bag (upd (upd H p (.lst xs)) o (.lst [])) b l := (B.new np).put (B.nb no0) (B.nl no0)
    have ea : (((xs.length : Nat) : Int)).toNat = xs.length := by omega
    refine ⟨_, rfl, a, xs, rfl, .inl (k2.seq nab hS), _, rfl, by omega, by omega, ?_⟩
    rw [ea]
    refine for_range (lo := 0) (n := xs.length) (fun i σ H' => ∃ (ys zs : List V) (y : Option V), σ = [some (.ref b), some (.ref a), some (.ref p), some (.ref o), y] ∧ Kp b H H' ∧ Bag H' b l ∧ H' p = some (.lst zs) ∧ H' o = some (.lst ys) ∧ (ys ++ zs).Perm xs ∧ ys.length = i)
      ⟨[], xs, none, rfl, k2, B2, by rw [upd_ne npo, upd_same], upd_same, .refl _, rfl⟩ ?_ ?_
    · rintro i σ H' hi ⟨ys, zs, y, rfl, kp, B', hp, ho, pm, hy⟩
      have hzl : ys.length + zs.length = xs.length := by
        have e := pm.length_eq
        rw [List.length_append] at e
        exact e
      refine ⟨_, rfl, .inl ⟨rfl, _, SqL.of ho⟩, _, rfl, .inl ⟨rfl, _, SqL.of hp⟩, _, rfl, _, rfl, p, zs, rfl, .inl (SqL.of hp), b, l, _, rfl, B', by omega, by omega, fun H1 d kp1 B1 d0 d1 => ?_⟩
      obtain ⟨j, rfl⟩ : ∃ j : Nat, d = j := ⟨d.toNat, by omega⟩
      have hj : j < zs.length := by omega
      have hp1 : H1 p = some (.lst zs) := kp1 _ _ (B.nb np) hp
      have ho1 : H1 o = some (.lst ys) := kp1 _ _ (B.nb no0) ho
      refine ⟨p, zs, _, j, zs[j], rfl, rfl, hp1, by omega, by omega, ?_, List.getElem?_eq_getElem hj, ?_⟩
      · exact (ixN_seq (n := zs.length) (i := (j : Int)) (j := j) (by unfold ixN; rw [if_pos (by omega), if_pos (by omega)]; rfl)).1
      · refine ⟨o, _, _, rfl, rfl, by rw [upd_ne npo.symm]; exact ho1, small1000 (by omega), ?_⟩
        refine ⟨ys ++ [zs[j]], zs.eraseIdx j, _, rfl, ((kp.trans kp1).put np).put no0, (B1.put (B.nb np) (B.nl np)).put (B.nb no0) (B.nl no0), ?_, upd_same, ?_, ?_⟩
        · rw [upd_ne npo, upd_same]
        · refine List.Perm.trans ?_ pm
          rw [List.append_assoc]
          exact List.Perm.append_left _ (erasePm zs j hj)
        · rw [List.length_append, hy]; rfl
    · rintro σ H' ⟨ys, zs, y, rfl, kp, B', hp, ho, pm, hy⟩
      have e0 : zs = [] := by
        have e := pm.length_eq
        rw [List.length_append] at e
        exact List.eq_nil_of_length_eq_zero (by omega)
      subst e0
      rw [List.append_nil] at pm
      exact ⟨_, rfl, q _ o ys kp B' no0 ho pm⟩
end

abbrev sSame : Stmt := topS 11
theorem scSame : FnScope ["_law_found", "_law_due", "_law_one", "_law_other"] ["_law_found", "_law_due"] (defScope sSame) := ⟨rfl, rfl, rfl, by decide +kernel, rfl, by decide +kernel, by decide +kernel⟩
structure SameT (mg : Str → Option Value) : Prop where
  isi : mg "isinstance" = none
  dict : mg "dict" = none
  list : mg "list" = none
  tuple : mg "tuple" = none
  bool : mg "bool" = none
  int : mg "int" = none
  str : mg "str" = none
  len : mg "len" = none
  all : mg "all" = none
  zip : mg "zip" = none
section
variable {P : Program} {w : World} {K : PySem.W.Frag} {mg : Str → Option Value} {base : Heap}
theorem ok_same0 {f : Addr} {fd : FuncData} (F : Fun K "_law_same" "_law_same" sSame f fd) (T : SameT mg) : FnOk P w K mg base CX0 (0 + 1) f fd ["_law_found", "_law_due"] (spSame (0)) := by
  refine F.ok scSame (fun vs H Q E h => ?_) (fun cdv A outer s H vs Q E hr h => ?_)
  · obtain ⟨x, y, rfl, _⟩ := h
    rfl
  · obtain ⟨x, y, rfl, he, q⟩ := h
    refine ⟨_, pss_cons (ps_if (PW.pt (pw_or (pt_cmpR op_isN (pv 1) pe_non (nomark _)) (pw_or1 (pt_cmpR op_isN (pv 0) pe_non (nomark _))))) (pss_one (ps_ret (pe_and (pe_cmpR op_isN (pv 0) pe_non (nomark _)) (pe_one (pe_cmpR op_isN (pv 1) pe_non (nomark _)))))) pss_nil)
      (pss_cons (ps_if (pt_val (pe_callB call_isi (by rfl) T.isi boot_isinstance (pa_cons (pv 1) (pa_cons (pe_bltn (v := .ty "dict") (by rfl) T.dict (by decide +kernel) rfl) pa_nil)))) pss_never pss_nil)
      (pss_cons (ps_if (pt_val (pe_callB call_isiT (by rfl) T.isi boot_isinstance (pa_cons (pv 1) (pa_cons (pe_tup (pa_cons (pe_bltn (v := .ty "list") (by rfl) T.list (by decide +kernel) rfl) (pa_cons (pe_bltn (v := .ty "tuple") (by rfl) T.tuple (by decide +kernel) rfl) pa_nil))) pa_nil)))) pss_never pss_nil)
      (pss_cons (ps_if (PW.pt (pw_or (pt_cmpR op_ne (pe_callB call_isi (by rfl) T.isi boot_isinstance (pa_cons (pv 0) (pa_cons (pe_bltn (v := .ty "bool") (by rfl) T.bool (by decide +kernel) rfl) pa_nil))) (pe_callB call_isi (by rfl) T.isi boot_isinstance (pa_cons (pv 1) (pa_cons (pe_bltn (v := .ty "bool") (by rfl) T.bool (by decide +kernel) rfl) pa_nil))) (nomark _))
          (pw_or1 (pt_cmpR op_ne (pe_callB call_isi (by rfl) T.isi boot_isinstance (pa_cons (pv 0) (pa_cons (pe_bltn (v := .ty "int") (by rfl) T.int (by decide +kernel) rfl) pa_nil))) (pe_callB call_isi (by rfl) T.isi boot_isinstance (pa_cons (pv 1) (pa_cons (pe_bltn (v := .ty "int") (by rfl) T.int (by decide +kernel) rfl) pa_nil))) (nomark _))))) pss_never pss_nil)
      (pss_one (ps_ret (pe_and (pe_cmpR op_eq (pe_callB call_isi (by rfl) T.isi boot_isinstance (pa_cons (pv 0) (pa_cons (pe_bltn (v := .ty "str") (by rfl) T.str (by decide +kernel) rfl) pa_nil))) (pe_callB call_isi (by rfl) T.isi boot_isinstance (pa_cons (pv 1) (pa_cons (pe_bltn (v := .ty "str") (by rfl) T.str (by decide +kernel) rfl) pa_nil))) (nomark _)) (pe_one (pe_cmpR op_eq (pv 0) (pv 1) (nomark _))))))))), ?_⟩
    rcases he with _ | ⟨_, bb⟩ | ⟨_, i⟩ | ⟨_, z⟩
    · refine ⟨_, rfl, rfl, _, rfl, iteT ⟨_, rfl, rfl, _, rfl, ifT rfl ⟨_, rfl, rfl, ?_⟩⟩⟩
      exact q _ (Same.refl _)
    · refine ⟨_, rfl, rfl, _, rfl, ifF (decide_eq_false (by intro e; cases e)) ⟨_, rfl, rfl, _, rfl, ifF (decide_eq_false (by intro e; cases e)) ?_⟩⟩
      refine ⟨_, rfl, _, _, _, _, false, rfl, .ty "dict", .base (.bl bb), kit_ty (by decide +kernel), _, rfl, iteF ?_⟩
      refine ⟨_, rfl, (by show 2 ≤ sizeLine; decide), fun t ht => ⟨_, t, _, _, [.type "list", .type "tuple"], false, rfl, upd_same, .cons (.ty _) (.cons (.ty _) .nil), .base (.bl bb), kit_list (by decide +kernel) (fun _ => by decide +kernel), _, rfl, iteF ?_⟩⟩
      refine ⟨_, rfl, _, _, _, _, true, rfl, .ty "bool", .base (.bl bb), kit_ty (by decide +kernel), _, rfl, _, _, _, _, true, rfl, .ty "bool", .base (.bl bb), kit_ty (by decide +kernel), rfl, _, rfl, ifF (by decide) ⟨_, rfl, _, _, _, _, true, rfl, .ty "int", .base (.bl bb), kit_ty (by decide +kernel), _, rfl, _, _, _, _, true, rfl, .ty "int", .base (.bl bb), kit_ty (by decide +kernel), rfl, _, rfl, ifF (by decide) ?_⟩⟩
      refine ⟨_, rfl, _, _, _, _, false, rfl, .ty "str", .base (.bl bb), kit_ty (by decide +kernel), _, rfl, _, _, _, _, false, rfl, .ty "str", .base (.bl bb), kit_ty (by decide +kernel), rfl, _, rfl, ifT (by decide) ⟨_, rfl, _, rfl, rfl, ?_⟩⟩
      rw [decide_eq_true rfl]
      exact q _ (same_upd ht)
    · refine ⟨_, rfl, rfl, _, rfl, ifF (decide_eq_false (by intro e; cases e)) ⟨_, rfl, rfl, _, rfl, ifF (decide_eq_false (by intro e; cases e)) ?_⟩⟩
      refine ⟨_, rfl, _, _, _, _, false, rfl, .ty "dict", .base (.int i), kit_ty (by decide +kernel), _, rfl, iteF ?_⟩
      refine ⟨_, rfl, (by show 2 ≤ sizeLine; decide), fun t ht => ⟨_, t, _, _, [.type "list", .type "tuple"], false, rfl, upd_same, .cons (.ty _) (.cons (.ty _) .nil), .base (.int i), kit_list (by decide +kernel) (fun _ => by decide +kernel), _, rfl, iteF ?_⟩⟩
      refine ⟨_, rfl, _, _, _, _, false, rfl, .ty "bool", .base (.int i), kit_ty (by decide +kernel), _, rfl, _, _, _, _, false, rfl, .ty "bool", .base (.int i), kit_ty (by decide +kernel), rfl, _, rfl, ifF (by decide) ⟨_, rfl, _, _, _, _, true, rfl, .ty "int", .base (.int i), kit_ty (by decide +kernel), _, rfl, _, _, _, _, true, rfl, .ty "int", .base (.int i), kit_ty (by decide +kernel), rfl, _, rfl, ifF (by decide) ?_⟩⟩
      refine ⟨_, rfl, _, _, _, _, false, rfl, .ty "str", .base (.int i), kit_ty (by decide +kernel), _, rfl, _, _, _, _, false, rfl, .ty "str", .base (.int i), kit_ty (by decide +kernel), rfl, _, rfl, ifT (by decide) ⟨_, rfl, _, rfl, rfl, ?_⟩⟩
      rw [decide_eq_true rfl]
      exact q _ (same_upd ht)
    · refine ⟨_, rfl, rfl, _, rfl, ifF (decide_eq_false (by intro e; cases e)) ⟨_, rfl, rfl, _, rfl, ifF (decide_eq_false (by intro e; cases e)) ?_⟩⟩
      refine ⟨_, rfl, _, _, _, _, false, rfl, .ty "dict", .base (.str z), kit_ty (by decide +kernel), _, rfl, iteF ?_⟩
      refine ⟨_, rfl, (by show 2 ≤ sizeLine; decide), fun t ht => ⟨_, t, _, _, [.type "list", .type "tuple"], false, rfl, upd_same, .cons (.ty _) (.cons (.ty _) .nil), .base (.str z), kit_list (by decide +kernel) (fun _ => by decide +kernel), _, rfl, iteF ?_⟩⟩
      refine ⟨_, rfl, _, _, _, _, false, rfl, .ty "bool", .base (.str z), kit_ty (by decide +kernel), _, rfl, _, _, _, _, false, rfl, .ty "bool", .base (.str z), kit_ty (by decide +kernel), rfl, _, rfl, ifF (by decide) ⟨_, rfl, _, _, _, _, false, rfl, .ty "int", .base (.str z), kit_ty (by decide +kernel), _, rfl, _, _, _, _, false, rfl, .ty "int", .base (.str z), kit_ty (by decide +kernel), rfl, _, rfl, ifF (by decide) ?_⟩⟩
      refine ⟨_, rfl, _, _, _, _, true, rfl, .ty "str", .base (.str z), kit_ty (by decide +kernel), _, rfl, _, _, _, _, true, rfl, .ty "str", .base (.str z), kit_ty (by decide +kernel), rfl, _, rfl, ifT (by decide) ⟨_, rfl, _, rfl, rfl, ?_⟩⟩
      rw [decide_eq_true rfl]
      exact q _ (same_upd ht)
theorem ok_sameS {f : Addr} {fd : FuncData} {n : Nat} (G : FnOk P w K mg base CX0 (n + 1) f fd ["_law_found", "_law_due"] (spSame n)) (gS : mg "_law_same" = some (.ref f)) (bS : Binds K fd ["_law_found", "_law_due"] []) (F : Fun K "_law_same" "_law_same" sSame f fd) (T : SameT mg) : FnOk P w K mg base CX0 (n + 1 + 1) f fd ["_law_found", "_law_due"] (spSame (n + 1)) := by
  refine F.ok scSame (fun vs H Q E h => ?_) (fun cdv A outer s H vs Q E hr h => ?_)
  · obtain ⟨x, y, rfl, _⟩ := h
    rfl
  · obtain ⟨x, y, rfl, he, q⟩ := h
    refine ⟨_, pss_cons (ps_if (PW.pt (pw_or (pt_cmpR op_isN (pv 1) pe_non (nomark _)) (pw_or1 (pt_cmpR op_isN (pv 0) pe_non (nomark _))))) (pss_one (ps_ret (pe_and (pe_cmpR op_isN (pv 0) pe_non (nomark _)) (pe_one (pe_cmpR op_isN (pv 1) pe_non (nomark _)))))) pss_nil)
      (pss_cons (ps_if (pt_val (pe_callB call_isi (by rfl) T.isi boot_isinstance (pa_cons (pv 1) (pa_cons (pe_bltn (v := .ty "dict") (by rfl) T.dict (by decide +kernel) rfl) pa_nil)))) pss_never pss_nil)
      (pss_cons (ps_if (pt_val (pe_callB call_isiT (by rfl) T.isi boot_isinstance (pa_cons (pv 1) (pa_cons (pe_tup (pa_cons (pe_bltn (v := .ty "list") (by rfl) T.list (by decide +kernel) rfl) (pa_cons (pe_bltn (v := .ty "tuple") (by rfl) T.tuple (by decide +kernel) rfl) pa_nil))) pa_nil)))) (pss_cons (ps_if (PW.pt (pw_or (pt_cmpR op_ne (pe_callB call_isi (by rfl) T.isi boot_isinstance (pa_cons (pv 0) (pa_cons (pe_bltn (v := .ty "list") (by rfl) T.list (by decide +kernel) rfl) pa_nil))) (pe_callB call_isi (by rfl) T.isi boot_isinstance (pa_cons (pv 1) (pa_cons (pe_bltn (v := .ty "list") (by rfl) T.list (by decide +kernel) rfl) pa_nil))) (nomark _)) (pw_or1 (pt_cmpR op_ne (pe_callB call_isi (by rfl) T.isi boot_isinstance (pa_cons (pv 0) (pa_cons (pe_bltn (v := .ty "tuple") (by rfl) T.tuple (by decide +kernel) rfl) pa_nil))) (pe_callB call_isi (by rfl) T.isi boot_isinstance (pa_cons (pv 1) (pa_cons (pe_bltn (v := .ty "tuple") (by rfl) T.tuple (by decide +kernel) rfl) pa_nil))) (nomark _))))) pss_never pss_nil)
        (pss_one (ps_ret (pe_and (pe_cmpR op_eq (pe_callB call_len_seq (by rfl) T.len PySem.boot_len (pa_cons (pv 0) pa_nil)) (pe_callB call_len_seq (by rfl) T.len PySem.boot_len (pa_cons (pv 1) pa_nil)) (nomark _))
          (pe_one (pe_callB (cr_all rfl) (by rfl) T.all boot_all (pa_cons (pe_lc (own := [("_law_one", 2), ("_law_other", 3)]) (g := gTup K 2 (gCons (gName 2) (gCons (gName 3) gNil))) (tt := tYes) rfl scSame.nd (RZ.pi_zipA (by rfl) T.zip (pa_cons (pv 0) (pa_cons (pv 1) pa_nil)))
            (blkOk_by (own := [("_law_one", 2), ("_law_other", 3)]) (N := ["_law_found", "_law_due", "_law_one", "_law_other"]) (sc := defScope sSame) (by decide +kernel))
            (fun _ _ _ _ _ => pg_tup rfl (pgs_cons (pg_name (i := 2) scSame.nd rfl (Or.inl rfl)) (pgs_cons (pg_name (i := 3) scSame.nd rfl (Or.inl rfl)) pgs_nil))) (fun _ _ _ _ _ => pts_nil)
            (fun _ _ _ _ _ => pe_call G hr (by rfl) gS F.kp bS .nil pass0 (pa_cons (pv 2) (pa_cons (pv 3) pa_nil)))) pa_nil))))))) pss_nil)
      (pss_cons (ps_if (PW.pt (pw_or (pt_cmpR op_ne (pe_callB call_isi (by rfl) T.isi boot_isinstance (pa_cons (pv 0) (pa_cons (pe_bltn (v := .ty "bool") (by rfl) T.bool (by decide +kernel) rfl) pa_nil))) (pe_callB call_isi (by rfl) T.isi boot_isinstance (pa_cons (pv 1) (pa_cons (pe_bltn (v := .ty "bool") (by rfl) T.bool (by decide +kernel) rfl) pa_nil))) (nomark _))
          (pw_or1 (pt_cmpR op_ne (pe_callB call_isi (by rfl) T.isi boot_isinstance (pa_cons (pv 0) (pa_cons (pe_bltn (v := .ty "int") (by rfl) T.int (by decide +kernel) rfl) pa_nil))) (pe_callB call_isi (by rfl) T.isi boot_isinstance (pa_cons (pv 1) (pa_cons (pe_bltn (v := .ty "int") (by rfl) T.int (by decide +kernel) rfl) pa_nil))) (nomark _))))) pss_never pss_nil)
      (pss_one (ps_ret (pe_and (pe_cmpR op_eq (pe_callB call_isi (by rfl) T.isi boot_isinstance (pa_cons (pv 0) (pa_cons (pe_bltn (v := .ty "str") (by rfl) T.str (by decide +kernel) rfl) pa_nil))) (pe_callB call_isi (by rfl) T.isi boot_isinstance (pa_cons (pv 1) (pa_cons (pe_bltn (v := .ty "str") (by rfl) T.str (by decide +kernel) rfl) pa_nil))) (nomark _)) (pe_one (pe_cmpR op_eq (pv 0) (pv 1) (nomark _))))))))), ?_⟩
    rcases he with _ | ⟨_, bb⟩ | ⟨_, i⟩ | ⟨_, z⟩ | ⟨hp, hq, hl, hz, hh⟩ | ⟨hp, hq, hl, hz, hh⟩
    · refine ⟨_, rfl, rfl, _, rfl, iteT ⟨_, rfl, rfl, _, rfl, ifT rfl ⟨_, rfl, rfl, ?_⟩⟩⟩
      exact q _ (Same.refl _)
    · refine ⟨_, rfl, rfl, _, rfl, ifF (decide_eq_false (by intro e; cases e)) ⟨_, rfl, rfl, _, rfl, ifF (decide_eq_false (by intro e; cases e)) ?_⟩⟩
      refine ⟨_, rfl, _, _, _, _, false, rfl, .ty "dict", .base (.bl bb), kit_ty (by decide +kernel), _, rfl, iteF ?_⟩
      refine ⟨_, rfl, (by show 2 ≤ sizeLine; decide), fun t ht => ⟨_, t, _, _, [.type "list", .type "tuple"], false, rfl, upd_same, .cons (.ty _) (.cons (.ty _) .nil), .base (.bl bb), kit_list (by decide +kernel) (fun _ => by decide +kernel), _, rfl, iteF ?_⟩⟩
      refine ⟨_, rfl, _, _, _, _, true, rfl, .ty "bool", .base (.bl bb), kit_ty (by decide +kernel), _, rfl, _, _, _, _, true, rfl, .ty "bool", .base (.bl bb), kit_ty (by decide +kernel), rfl, _, rfl, ifF (by decide) ⟨_, rfl, _, _, _, _, true, rfl, .ty "int", .base (.bl bb), kit_ty (by decide +kernel), _, rfl, _, _, _, _, true, rfl, .ty "int", .base (.bl bb), kit_ty (by decide +kernel), rfl, _, rfl, ifF (by decide) ?_⟩⟩
      refine ⟨_, rfl, _, _, _, _, false, rfl, .ty "str", .base (.bl bb), kit_ty (by decide +kernel), _, rfl, _, _, _, _, false, rfl, .ty "str", .base (.bl bb), kit_ty (by decide +kernel), rfl, _, rfl, ifT (by decide) ⟨_, rfl, _, rfl, rfl, ?_⟩⟩
      rw [decide_eq_true rfl]
      exact q _ (same_upd ht)
    · refine ⟨_, rfl, rfl, _, rfl, ifF (decide_eq_false (by intro e; cases e)) ⟨_, rfl, rfl, _, rfl, ifF (decide_eq_false (by intro e; cases e)) ?_⟩⟩
      refine ⟨_, rfl, _, _, _, _, false, rfl, .ty "dict", .base (.int i), kit_ty (by decide +kernel), _, rfl, iteF ?_⟩
      refine ⟨_, rfl, (by show 2 ≤ sizeLine; decide), fun t ht => ⟨_, t, _, _, [.type "list", .type "tuple"], false, rfl, upd_same, .cons (.ty _) (.cons (.ty _) .nil), .base (.int i), kit_list (by decide +kernel) (fun _ => by decide +kernel), _, rfl, iteF ?_⟩⟩
      refine ⟨_, rfl, _, _, _, _, false, rfl, .ty "bool", .base (.int i), kit_ty (by decide +kernel), _, rfl, _, _, _, _, false, rfl, .ty "bool", .base (.int i), kit_ty (by decide +kernel), rfl, _, rfl, ifF (by decide) ⟨_, rfl, _, _, _, _, true, rfl, .ty "int", .base (.int i), kit_ty (by decide +kernel), _, rfl, _, _, _, _, true, rfl, .ty "int", .base (.int i), kit_ty (by decide +kernel), rfl, _, rfl, ifF (by decide) ?_⟩⟩
      refine ⟨_, rfl, _, _, _, _, false, rfl, .ty "str", .base (.int i), kit_ty (by decide +kernel), _, rfl, _, _, _, _, false, rfl, .ty "str", .base (.int i), kit_ty (by decide +kernel), rfl, _, rfl, ifT (by decide) ⟨_, rfl, _, rfl, rfl, ?_⟩⟩
      rw [decide_eq_true rfl]
      exact q _ (same_upd ht)
    · refine ⟨_, rfl, rfl, _, rfl, ifF (decide_eq_false (by intro e; cases e)) ⟨_, rfl, rfl, _, rfl, ifF (decide_eq_false (by intro e; cases e)) ?_⟩⟩
      refine ⟨_, rfl, _, _, _, _, false, rfl, .ty "dict", .base (.str z), kit_ty (by decide +kernel), _, rfl, iteF ?_⟩
      refine ⟨_, rfl, (by show 2 ≤ sizeLine; decide), fun t ht => ⟨_, t, _, _, [.type "list", .type "tuple"], false, rfl, upd_same, .cons (.ty _) (.cons (.ty _) .nil), .base (.str z), kit_list (by decide +kernel) (fun _ => by decide +kernel), _, rfl, iteF ?_⟩⟩
      refine ⟨_, rfl, _, _, _, _, false, rfl, .ty "bool", .base (.str z), kit_ty (by decide +kernel), _, rfl, _, _, _, _, false, rfl, .ty "bool", .base (.str z), kit_ty (by decide +kernel), rfl, _, rfl, ifF (by decide) ⟨_, rfl, _, _, _, _, false, rfl, .ty "int", .base (.str z), kit_ty (by decide +kernel), _, rfl, _, _, _, _, false, rfl, .ty "int", .base (.str z), kit_ty (by decide +kernel), rfl, _, rfl, ifF (by decide) ?_⟩⟩
      refine ⟨_, rfl, _, _, _, _, true, rfl, .ty "str", .base (.str z), kit_ty (by decide +kernel), _, rfl, _, _, _, _, true, rfl, .ty "str", .base (.str z), kit_ty (by decide +kernel), rfl, _, rfl, ifT (by decide) ⟨_, rfl, _, rfl, rfl, ?_⟩⟩
      rw [decide_eq_true rfl]
      exact q _ (same_upd ht)
    · rename_i p' q' xs ys
      refine ⟨_, rfl, rfl, _, rfl, ifF (decide_eq_false (by intro e; cases e)) ⟨_, rfl, rfl, _, rfl, ifF (decide_eq_false (by intro e; cases e)) ?_⟩⟩
      refine ⟨_, rfl, _, _, _, _, false, rfl, .ty "dict", .base (.lst hq), kit_ty (by decide +kernel), _, rfl, iteF ?_⟩
      refine ⟨_, rfl, (by show 2 ≤ sizeLine; decide), fun t ht => ⟨_, t, _, _, [.type "list", .type "tuple"], true, rfl, upd_same, .cons (.ty _) (.cons (.ty _) .nil), .base (.lst (same_upd ht _ _ hq)), kit_list (by decide +kernel) (fun e => by cases e), _, rfl, iteT ?_⟩⟩
      have s1 : Same H (upd H t (.tup [.ty "list", .ty "tuple"])) := same_upd ht
      have hp1 := s1 _ _ hp
      have hq1 := s1 _ _ hq
      refine ⟨_, rfl, _, _, _, _, true, rfl, .ty "list", .base (.lst hp1), kit_ty (by decide +kernel), _, rfl, _, _, _, _, true, rfl, .ty "list", .base (.lst hq1), kit_ty (by decide +kernel), rfl, _, rfl, ifF (by decide) ⟨_, rfl, _, _, _, _, false, rfl, .ty "tuple", .base (.lst hp1), kit_ty (by decide +kernel), _, rfl, _, _, _, _, false, rfl, .ty "tuple", .base (.lst hq1), kit_ty (by decide +kernel), rfl, _, rfl, ifF (by decide) ?_⟩⟩
      refine ⟨_, rfl, p', xs, rfl, .inl (SqL.of hp1), _, rfl, q', ys, rfl, .inl (SqL.of hq1), rfl, _, rfl, ifT (decide_eq_true (by rw [hl])) ?_⟩
      refine ⟨_, rfl, _, rfl, p', q', xs, ys, rfl, .inl ⟨SqL.of hp1, SqL.of hq1, fun D hD => ?_⟩⟩
      have fD := s1.free hD
      refine lc_it (walk_zip (K := K) (a := p') (b := q') (xs := xs) (ys := ys) (n := xs.length) (by omega)) (fun i H' => Same H H' ∧ H' D = some (.lst ((List.replicate i true).map V.bl))) ⟨same_put s1 fD, upd_same⟩
        (fun i H' _ hv => ⟨SqL.of (hv.1 _ _ hp), SqL.of (hv.1 _ _ hq)⟩) ?_ ?_
      · rintro i v H' H2 hi ⟨sm, hDl⟩ ⟨t2, a1, a2, rfl, ht2, rfl, e1, e2⟩
        have s2 : Same H' (upd H' t2 (.tup [a1, a2])) := same_upd ht2
        refine ⟨t2, _, rfl, .inl (.inl upd_same), rfl, a1, [a2], rfl, a2, [], rfl, rfl, rfl, ?_⟩
        refine ⟨_, rfl, _, rfl, a1, a2, rfl, (hh i a1 a2 e1 e2).same (sm.trans s2), fun H3 s3 => ?_⟩
        refine ⟨_, s3 _ _ (s2 _ _ hDl), ?_, same_put (sm.trans (s2.trans s3)) fD, ?_⟩
        · rw [List.length_map, List.length_replicate]
          exact Nat.lt_of_lt_of_le hi (Nat.le_trans hz (by decide))
        · rw [upd_same, List.replicate_succ', List.map_append]
          rfl
      · rintro H' ⟨sm, hDl⟩
        refine ⟨D, List.replicate xs.length true, rfl, SqL.of hDl, ?_⟩
        have e : (List.replicate xs.length true).all id = true := by
          rw [List.all_eq_true]
          intro b hb
          exact (List.mem_replicate.mp hb).2
        rw [e]
        exact q _ sm
    · rename_i p' q' xs ys
      refine ⟨_, rfl, rfl, _, rfl, ifF (decide_eq_false (by intro e; cases e)) ⟨_, rfl, rfl, _, rfl, ifF (decide_eq_false (by intro e; cases e)) ?_⟩⟩
      refine ⟨_, rfl, _, _, _, _, false, rfl, .ty "dict", .base (.tup hq), kit_ty (by decide +kernel), _, rfl, iteF ?_⟩
      refine ⟨_, rfl, (by show 2 ≤ sizeLine; decide), fun t ht => ⟨_, t, _, _, [.type "list", .type "tuple"], true, rfl, upd_same, .cons (.ty _) (.cons (.ty _) .nil), .base (.tup (same_upd ht _ _ hq)), kit_tup, _, rfl, iteT ?_⟩⟩
      have s1 : Same H (upd H t (.tup [.ty "list", .ty "tuple"])) := same_upd ht
      have hp1 := s1 _ _ hp
      have hq1 := s1 _ _ hq
      refine ⟨_, rfl, _, _, _, _, false, rfl, .ty "list", .base (.tup hp1), kit_ty (by decide +kernel), _, rfl, _, _, _, _, false, rfl, .ty "list", .base (.tup hq1), kit_ty (by decide +kernel), rfl, _, rfl, ifF (by decide) ⟨_, rfl, _, _, _, _, true, rfl, .ty "tuple", .base (.tup hp1), kit_ty (by decide +kernel), _, rfl, _, _, _, _, true, rfl, .ty "tuple", .base (.tup hq1), kit_ty (by decide +kernel), rfl, _, rfl, ifF (by decide) ?_⟩⟩
      refine ⟨_, rfl, p', xs, rfl, .inr (.inl (.inl hp1)), _, rfl, q', ys, rfl, .inr (.inl (.inl hq1)), rfl, _, rfl, ifT (decide_eq_true (by rw [hl])) ?_⟩
      refine ⟨_, rfl, _, rfl, p', q', xs, ys, rfl, .inr ⟨.inl (.inl hp1), .inl (.inl hq1), fun D hD => ?_⟩⟩
      have fD := s1.free hD
      refine lc_it (zip_tuples (K := K) (a := p') (b := q') (xs := xs) (ys := ys) hl) (fun i H' => Same H H' ∧ H' D = some (.lst ((List.replicate i true).map V.bl))) ⟨same_put s1 fD, upd_same⟩
        (fun i H' _ hv => ⟨.inl (.inl (hv.1 _ _ hp)), .inl (.inl (hv.1 _ _ hq))⟩) ?_ ?_
      · rintro i v H' H2 hi ⟨sm, hDl⟩ ⟨t2, a1, a2, rfl, ht2, rfl, e1, e2⟩
        have s2 : Same H' (upd H' t2 (.tup [a1, a2])) := same_upd ht2
        refine ⟨t2, _, rfl, .inl (.inl upd_same), rfl, a1, [a2], rfl, a2, [], rfl, rfl, rfl, ?_⟩
        refine ⟨_, rfl, _, rfl, a1, a2, rfl, (hh i a1 a2 e1 e2).same (sm.trans s2), fun H3 s3 => ?_⟩
        refine ⟨_, s3 _ _ (s2 _ _ hDl), ?_, same_put (sm.trans (s2.trans s3)) fD, ?_⟩
        · rw [List.length_map, List.length_replicate]
          exact Nat.lt_of_lt_of_le hi (Nat.le_trans hz (by decide))
        · rw [upd_same, List.replicate_succ', List.map_append]
          rfl
      · rintro H' ⟨sm, hDl⟩
        refine ⟨D, List.replicate xs.length true, rfl, SqL.of hDl, ?_⟩
        have e : (List.replicate xs.length true).all id = true := by
          rw [List.all_eq_true]
          intro b hb
          exact (List.mem_replicate.mp hb).2
        rw [e]
        exact q _ sm
theorem ok_same {f : Addr} {fd : FuncData} (F : Fun K "_law_same" "_law_same" sSame f fd) (T : SameT mg) (gS : mg "_law_same" = some (.ref f)) (bS : Binds K fd ["_law_found", "_law_due"] []) : ∀ n : Nat, FnOk P w K mg base CX0 (n + 1) f fd ["_law_found", "_law_due"] (spSame n)
  | 0 => ok_same0 F T
  | n + 1 => ok_sameS (ok_same F T gS bS n) gS bS F T
end


end T40

namespace T40
open PySem PySem.Spec PyProof.Rows L2 Tm
abbrev sBits : Stmt := topS 1
abbrev sNumW : Stmt := topS 2
theorem scBits : FnScope ["number", "places", "left", "top"] ["number"] (defScope sBits) := ⟨rfl, rfl, rfl, by decide +kernel, rfl, by decide +kernel, by decide +kernel⟩
theorem scNumW : FnScope ["places", "number", "place"] ["places"] (defScope sNumW) := ⟨rfl, rfl, rfl, by decide +kernel, rfl, by decide +kernel, by decide +kernel⟩
open Gauss
section
variable {P : Program} {w : World} {K : PySem.W.Frag} {mg : Str → Option Value} {base : Heap}
theorem ok_bits {f : Addr} {fd : FuncData} (F : Fun K "bits_of" "bits_of" sBits f fd) : FnOk P w K mg base CX0 1 f fd ["number"] spBits := by
  refine F.ok scBits (fun vs H Q E h => ?_) (fun cdv A outer s H vs Q E hr h => ?_)
  · obtain ⟨m, rfl, _⟩ := h
    rfl
  · obtain ⟨m, rfl, few, q⟩ := h
    refine ⟨_, pss_cons (ps_set (i := 1) scBits.nd rfl (.inl rfl) (pe_lst pa_nil))
      (pss_cons (ps_set (i := 2) scBits.nd rfl (.inl rfl) (pv 0))
      (pss_cons (ps_while PassesOwn.never (pt_truth (pv 2) (fun _ => rfl))
        (pss_cons (ps_set (i := 3) scBits.nd rfl (.inl rfl) (pe_op op_sub (pe_bits (pv 2)) pe_int))
        (pss_cons (ps_expr (pe_bm PySem.F.plainAttrs_list PySem.F.slot_list_append PySem.F.type_list_append mt_append (pv 1) (pa_cons (pv 3) pa_nil)))
        (pss_one (ps_aug (i := 2) scBits.nd rfl (.inl rfl) (pe_op op_oneShl pe_int (pv 3)) iop_xorN)))))
      (pss_one (ps_ret (pe_revL (pv 1)))))), ?_⟩
    refine ⟨Nat.zero_le _, fun o no => ?_⟩
    refine ⟨_, rfl, ?_⟩
    dsimp only [gName, tSeq]
    refine while_by (fun σ H' => ∃ (left : Nat) (ps : List Nat) (y3 : Option V), σ = [some (nv m), some (.ref o), some (nv left), y3] ∧ Same H H' ∧ H' o = some (.lst (ps.map nv)) ∧ bitsL (bl m) m = bitsL (bl left) left ++ ps.reverse)
      (slotBl 2) ⟨m, [], none, rfl, same_upd no, upd_same, by simp⟩ ?_ (fun σ H1 q1 q2 h ⟨x, e, k, t, g⟩ => ⟨x, e, k, t, h _ _ g⟩)
    rintro σ H1 ⟨left, ps, y3, rfl, s1, ho, inv⟩
    refine ⟨_, rfl, ((left : Int) != 0), rfl, ?_⟩
    by_cases z : left = 0
    · subst z
      refine iteF ?_
      refine ⟨_, rfl, o, _, rfl, SqL.of ho, fun p np => q _ p (s1.trans (same_upd np)) (s1.free np) ?_⟩
      rw [upd_same, inv, ← List.map_reverse]
      rfl
    · have nz : ((left : Int) != 0) = true := by simp; omega
      rw [nz]
      refine iteT ?_
      have many : ps.length ≤ 1000 := by
        have e := congrArg List.length inv
        rw [List.length_append, List.length_reverse] at e
        have l := List.length_filter_le (fun i => m.testBit i) (List.range (bl m))
        rw [List.length_range] at l
        have l2 : (bitsL (bl m) m).length ≤ bl m := l
        omega
      have lp : 0 < bl left := by rw [bl_pos z]; omega
      have lb := xor_top z
      have lt : bl (left ^^^ 2 ^ (bl left - 1)) < bl left := by
        have := bl_le lb
        omega
      have few2 : bl left ≤ 1000 := by
        have top : bl left - 1 ∈ bitsL (bl m) m := by
          rw [inv, bits_top z]
          simp
        have := (bits_mem.mp top).1
        omega
      refine ⟨_, rfl, _, rfl, _, _, rfl, rfl, ?_⟩
      refine ⟨_, rfl, .inl ⟨rfl, _, SqL.of ho⟩, _, rfl, o, _, _, rfl, rfl, ho, by rw [List.length_map]; exact small1000 (by omega), ?_⟩
      have et : V.int ((Builtin.Int.intBits (left : Int) : Int) - 1) = nv (bl left - 1) := by
        rw [bl_int]
        exact congrArg V.int (by omega)
      refine ⟨_, rfl, _, rfl, bl left - 1, rfl, et, by omega, left, 2 ^ (bl left - 1), rfl, congrArg V.int (by simp), ?_⟩
      refine ⟨⟨left ^^^ 2 ^ (bl left - 1), ps ++ [bl left - 1], _, rfl, same_put s1 no, ?_, ?_⟩, ?_⟩
      · rw [upd_same, List.map_append]
        exact congrArg (fun v => some (HO.lst (List.map nv ps ++ [v]))) et
      · rw [inv, bits_top z, List.reverse_append, List.append_assoc]
        rfl
      · exact lt
theorem ok_numwE {f : Addr} {fd : FuncData} (F : Fun K "number_with" "number_with" sNumW f fd) : FnOk P w K mg base CX0 1 f fd ["places"] (spNumWE K) := by
  refine F.ok scNumW (fun vs H Q E h => ?_) (fun cdv A outer s H vs Q E hr h => ?_)
  · obtain ⟨p, ps, rfl, _⟩ := h
    rfl
  · obtain ⟨p, ps, rfl, hp, few, q⟩ := h
    rcases hp with hp | hp
    · refine ⟨_, pss_cons (ps_set (i := 1) scNumW.nd rfl (.inl rfl) pe_int)
        (pss_cons (ps_for PassesOwn.never rfl (pi_list (pv 0)) (pg_name (i := 2) scNumW.nd rfl (.inl rfl))
          (pss_one (ps_aug (i := 1) scNumW.nd rfl (.inl rfl) (pe_op op_oneShl pe_int (pv 2)) iop_xorN)))
        (pss_one (ps_ret (pv 1)))), ?_⟩
      refine ⟨_, rfl, p, rfl, ⟨_, hp⟩, ?_⟩
      refine for_it (walk_list (xs := ps.map nv)) (fun i σ H' => ∃ y2 : Option V, σ = [some (.ref p), some (nv (numL (ps.take i))), y2] ∧ H' = H) ⟨none, rfl, rfl⟩ (fun i σ H' _ ⟨_, _, e⟩ => e ▸ hp) ?_ ?_
      · rintro i v σ H1 H2 hi ⟨y2, rfl, rfl⟩ ⟨rfl, hv⟩
        rw [List.length_map] at hi
        rw [List.getElem?_map, List.getElem?_eq_getElem hi] at hv
        have ev : v = nv ps[i] := (Option.some.inj hv).symm
        subst ev
        have small := few ps[i] (List.getElem_mem hi)
        refine ⟨_, rfl, _, rfl, ps[i], rfl, rfl, by omega, numL (ps.take i), 2 ^ ps[i], rfl, congrArg V.int (by simp), ?_⟩
        refine ⟨some (nv ps[i]), ?_, rfl⟩
        rw [List.take_succ_eq_append_getElem hi]
        unfold numL
        rw [List.foldl_append]
        rfl
      · rintro σ H1 ⟨y2, rfl, rfl⟩
        rw [List.length_map, List.take_length]
        exact ⟨_, rfl, q⟩
    · refine ⟨_, pss_cons (ps_set (i := 1) scNumW.nd rfl (.inl rfl) pe_int)
        (pss_cons (ps_for PassesOwn.never rfl (pi_tup (pv 0)) (pg_name (i := 2) scNumW.nd rfl (.inl rfl))
          (pss_one (ps_aug (i := 1) scNumW.nd rfl (.inl rfl) (pe_op op_oneShl pe_int (pv 2)) iop_xorN)))
        (pss_one (ps_ret (pv 1)))), ?_⟩
      refine ⟨_, rfl, p, rfl, ⟨_, hp⟩, ?_⟩
      refine for_it (walk_tup (xs := ps.map nv)) (fun i σ H' => ∃ y2 : Option V, σ = [some (.ref p), some (nv (numL (ps.take i))), y2] ∧ H' = H) ⟨none, rfl, rfl⟩ (fun i σ H' _ ⟨_, _, e⟩ => e ▸ hp) ?_ ?_
      · rintro i v σ H1 H2 hi ⟨y2, rfl, rfl⟩ ⟨rfl, hv⟩
        rw [List.length_map] at hi
        rw [List.getElem?_map, List.getElem?_eq_getElem hi] at hv
        have ev : v = nv ps[i] := (Option.some.inj hv).symm
        subst ev
        have small := few ps[i] (List.getElem_mem hi)
        refine ⟨_, rfl, _, rfl, ps[i], rfl, rfl, by omega, numL (ps.take i), 2 ^ ps[i], rfl, congrArg V.int (by simp), ?_⟩
        refine ⟨some (nv ps[i]), ?_, rfl⟩
        rw [List.take_succ_eq_append_getElem hi]
        unfold numL
        rw [List.foldl_append]
        rfl
      · rintro σ H1 ⟨y2, rfl, rfl⟩
        rw [List.length_map, List.take_length]
        exact ⟨_, rfl, q⟩
end


end T40

namespace T40
open PySem PySem.Spec PyProof.Rows L2 Tm
abbrev sTops : Stmt := topS 3
theorem scTops : FnScope ["row", "rows", "unknowns", "value", "used", "more_unknowns", "more_value", "more_used"] ["row", "rows"] (defScope sTops) := ⟨rfl, rfl, rfl, by decide +kernel, rfl, by decide +kernel, by decide +kernel⟩
open Gauss
section
variable {P : Program} {w : World} {K : PySem.W.Frag} {mg : Str → Option Value} {base : Heap}
theorem ok_topsE {f : Addr} {fd : FuncData} (F : Fun K "row_without_tops" "row_without_tops" sTops f fd) : FnOk P w K mg base CX0 1 f fd ["row", "rows"] (spTopsE K) := by
  refine F.ok scTops (fun vs H Q E h => ?_) (fun cdv A outer s H vs Q E hr h => ?_)
  · obtain ⟨N, g, n, k0, k, p, d, es, r0, rfl, _⟩ := h
    rfl
  · obtain ⟨N, g, n, k0, k, p, d, es, r0, rfl, hp, hd, kept, kk, fair, q⟩ := h
    refine ⟨_, pss_cons (ps_asg (pv 0) (pg_tup rfl (pgs_cons (pg_name (i := 2) scTops.nd rfl (.inl rfl)) (pgs_cons (pg_name (i := 3) scTops.nd rfl (.inl rfl)) (pgs_cons (pg_name (i := 4) scTops.nd rfl (.inl rfl)) pgs_nil)))))
      (pss_cons (ps_while PassesOwn.never (pt_cmp (pc_din (hu_of hr) (pe_bits (pv 2)) (pv 1)))
        (pss_cons (ps_asg (pe_dget (hu_of hr) (pv 1) (pe_bits (pv 2)) (fun _ _ => rfl)) (pg_tup rfl (pgs_cons (pg_name (i := 5) scTops.nd rfl (.inl rfl)) (pgs_cons (pg_name (i := 6) scTops.nd rfl (.inl rfl)) (pgs_cons (pg_name (i := 7) scTops.nd rfl (.inl rfl)) pgs_nil)))))
        (pss_cons (ps_aug (i := 2) scTops.nd rfl (.inl rfl) (pv 5) iop_xorN)
        (pss_cons (ps_aug (i := 3) scTops.nd rfl (.inl rfl) (pv 6) iop_xorN)
        (pss_one (ps_aug (i := 4) scTops.nd rfl (.inl rfl) (pv 7) iop_xorN))))))
      (pss_one (ps_ret (pe_tup (pa_cons (pv 2) (pa_cons (pv 3) (pa_cons (pv 4) pa_nil))))))), ?_⟩
    refine ⟨_, rfl, p, _, rfl, hp, rfl, _, _, rfl, _, _, rfl, _, _, rfl, rfl, ?_⟩
    dsimp only [gName, tSeq]
    refine while_by (fun σ H' => ∃ (r : Rw) (y5 y6 y7 : Option V), σ = [some (.ref p), some (.ref d), some (nv r.q.u), some (nv r.q.v.toNat), some (nv r.c), y5, y6, y7] ∧ H' = H ∧ Reach N g n k (rowAt es) r0 r ∧ ∀ r2, RowEnds (rowAt es) r r2 → RowEnds (rowAt es) r0 r2)
      (slotBl 2) ⟨r0, none, none, none, rfl, rfl, Reach.refl fair, fun _ h => h⟩ ?_ (fun σ H1 q1 q2 h ⟨x, e, i, ei, y, ey, a, o, ea, gg, c, ec, t⟩ => ⟨x, e, i, ei, y, ey, a, o, ea, gg, c, ec, h _ _ t⟩)
    rintro σ H1 ⟨r, y5, y6, y7, rfl, rfl, reach, ends⟩
    have got := DGet.k (k := Sum.inl ((Builtin.Int.intBits ((r.q.u : Nat) : Int) : Nat) : Int)) hd.dict
    have val : valV (entK es) (Sum.inl ((Builtin.Int.intBits ((r.q.u : Nat) : Int) : Nat) : Int)) = (entAt es (bl r.q.u)).map fun e => V.ref e.2.1 := by
      rw [bl_int]
      exact ent_val es _
    rw [val] at got
    refine ⟨_, rfl, _, rfl, _, rfl, d, _, rfl, got, _, rfl, ?_⟩
    cases hx : entAt es (bl r.q.u) with
    | none =>
      rw [hx] at got
      refine iteF ?_
      exact ⟨_, rfl, _, rfl, _, rfl, (by show 3 ≤ sizeLine; decide), fun o no => q _ o r (same_upd no) no upd_same reach hx (ends r (.stop (by unfold rowAt; rw [hx]; rfl)))⟩
    | some e =>
      rw [hx] at got
      refine iteT ?_
      have m := ent_mem hx
      have rt := hd.rows e m.1
      have rx : rowAt es (bl r.q.u) = some e.2.2 := by unfold rowAt; rw [hx]; rfl
      obtain ⟨reach2, lt⟩ := Reach.step kept kk reach rx
      refine ⟨_, rfl, _, rfl, _, rfl, d, _, rfl, got, e.2.1, _, rfl, SqT.of rt, rfl, _, _, rfl, _, _, rfl, _, _, rfl, rfl, ?_⟩
      refine ⟨_, rfl, _, rfl, _, _, rfl, rfl, ?_⟩
      refine ⟨_, rfl, _, rfl, _, _, rfl, rfl, ?_⟩
      refine ⟨_, rfl, _, rfl, _, _, rfl, rfl, ?_⟩
      refine ⟨⟨r.add e.2.2, some (nv e.2.2.q.u), some (nv e.2.2.q.v.toNat), some (nv e.2.2.c), ?_, rfl, reach2, fun r2 h => ends r2 (.step rx h)⟩, lt⟩
      rw [xor_bl]
      rfl
end


end T40

namespace T40
open PySem PySem.Spec PyProof.Rows L2 Tm
abbrev sOnes : Stmt := topS 4
theorem scOnes : FnScope ["rows", "ones", "length", "unknowns", "value", "used"] ["rows"] (defScope sOnes) := ⟨rfl, rfl, rfl, by decide +kernel, rfl, by decide +kernel, by decide +kernel⟩
open Gauss
section
variable {P : Program} {w : World} {K : PySem.W.Frag} {mg : Str → Option Value} {base : Heap}
theorem ok_onesE {f fB : Addr} {fd fdB : FuncData} (F : Fun K "ones_of" "ones_of" sOnes f fd) (FB : Fun K "bits_of" "bits_of" sBits fB fdB) (bB : Binds K fdB ["number"] []) (gB : mg "bits_of" = some (.ref fB)) (ms : mg "sorted" = none) (ml : mg "len" = none) :
    FnOk P w K mg base CX0 2 f fd ["rows"] spOnesE := by
  have GB : FnOk P w K mg base CX0 1 fB fdB ["number"] spBits := ok_bits FB
  refine F.ok scOnes (fun vs H Q E h => ?_) (fun cdv A outer s H vs Q E hr h => ?_)
  · obtain ⟨N, g, n, k, d, es, rfl, _⟩ := h
    rfl
  · obtain ⟨N, g, n, k, d, es, rfl, hd, good, hN, q⟩ := h
    refine ⟨_, pss_cons (ps_set (i := 1) scOnes.nd rfl (.inl rfl) pe_int)
      (pss_cons (ps_for PassesOwn.never rfl (pi_list (pe_callB (call_sortID rfl) (by rfl) ms boot_sorted (pa_cons (pv 0) pa_nil))) (pg_name (i := 2) scOnes.nd rfl (.inl rfl))
        (pss_cons (ps_asg (pe_dget (hu_of hr) (pv 0) (pv 2) (fun _ _ => rfl)) (pg_tup rfl (pgs_cons (pg_name (i := 3) scOnes.nd rfl (.inl rfl)) (pgs_cons (pg_name (i := 4) scOnes.nd rfl (.inl rfl)) (pgs_cons (pg_name (i := 5) scOnes.nd rfl (.inl rfl)) pgs_nil)))))
        (pss_one (ps_if (pt_cmpR op_eq (pe_op op_mod (pe_op op_add (pe_callB call_len_seq (by rfl) ml PySem.boot_len (pa_cons (pe_call GB hr (by rfl) gB FB.kp bB .nil pass0 (pa_cons (pe_op op_andN (pv 3) (pv 1)) pa_nil)) pa_nil)) (pv 4)) pe_int) pe_int (nomark _))
          (pss_one (ps_aug (i := 1) scOnes.nd rfl (.inl rfl) (pe_op op_oneShl pe_int (pe_op op_sub (pv 2) pe_int)) iop_xorN)) pss_nil))))
      (pss_one (ps_ret (pe_call GB hr (by rfl) gB FB.kp bB .nil pass0 (pa_cons (pv 1) pa_nil))))), ?_⟩
    refine ⟨_, rfl, d, _, es.map (fun e => (e.1 : Int)), rfl, hd.dict, ?_, by rw [List.length_map]; have := good.few; omega, fun ys p perm up np => ?_⟩
    · unfold entK
      rw [List.map_map, List.map_map]
      rfl
    have perm2 : ys.Perm ((es.map fun e => e.1).map fun k : Nat => (k : Int)) := by
      rw [List.map_map]
      exact perm
    obtain ⟨Ls, rfl, pl, upl⟩ := nats_of perm2 up good.uniq
    have inLs : ∀ L ∈ Ls, ∃ e ∈ es, e.1 = L := fun L hL => by
      obtain ⟨e, he, z⟩ := List.mem_map.mp (pl.mem_iff.mp hL)
      exact ⟨e, he, z⟩
    have elen : ((Ls.map fun k : Nat => (k : Int)).map V.int) = Ls.map nv := by rw [List.map_map]; rfl
    rw [elen]
    have nz : ∀ L r, rowAt es L = some r → 0 < L := fun L r hr => by
      have t := good.kept.top L r hr
      rw [← t.2, bl_pos t.1]
      omega
    have rowIs : ∀ e ∈ es, rowAt es e.1 = some e.2.2 := fun e he => by
      unfold rowAt
      rw [ent_is good.uniq he]
      rfl
    refine ⟨p, rfl, ⟨_, SqL.of upd_same⟩, ?_⟩
    refine for_it (walk_list (xs := Ls.map nv)) (fun i σ H' => ∃ y2 y3 y4 y5 : Option V, σ = [some (.ref d), some (nv ((Ls.take i).foldl (stepOne N (rowAt es)) 0)), y2, y3, y4, y5] ∧ Same H H' ∧ H' p = some (.lst (Ls.map nv)))
      ⟨none, none, none, none, rfl, same_upd np, upd_same⟩ (fun i σ H' _ ⟨_, _, _, _, _, _, hp⟩ => SqL.of hp) ?_ ?_
    · rintro i v σ H1 H2 hi ⟨y2, y3, y4, y5, rfl, s1, hp⟩ ⟨rfl, hv⟩
      rw [List.length_map] at hi
      rw [List.getElem?_map, List.getElem?_eq_getElem hi] at hv
      have ev : v = nv Ls[i] := (Option.some.inj hv).symm
      subst ev
      obtain ⟨e, he, eL⟩ := inLs Ls[i] (List.getElem_mem hi)
      have et := ent_is good.uniq he
      have hd1 := hd.same s1
      have got := DGet.k (k := Sum.inl ((Ls[i] : Nat) : Int)) hd1.dict
      rw [ent_val, ← eL, et] at got
      rw [List.take_succ_eq_append_getElem hi, List.foldl_append, List.foldl_cons, List.foldl_nil, ← eL]
      have st : ∀ S, stepOne N (rowAt es) S e.1 = if (par N (e.2.2.q.u &&& S) ^^ e.2.2.q.v) then S ^^^ 2 ^ (e.1 - 1) else S := fun S => by
        unfold stepOne
        rw [rowIs e he]
      rw [st]
      generalize (Ls.take i).foldl (stepOne N (rowAt es)) 0 = S
      have tp := good.kept.top _ _ (rowIs e he)
      have ub : e.2.2.q.u < 2 ^ N := by
        have b1 := lt_bl e.2.2.q.u
        rw [tp.2] at b1
        exact Nat.lt_of_lt_of_le b1 (Nat.pow_le_pow_right (by decide) (good.wide e he))
      have lb := low_bits (b := S) ub
      refine ⟨_, rfl, _, rfl, d, _, rfl, got, e.2.1, _, rfl, SqT.of (hd1.rows e he), rfl, _, _, rfl, _, _, rfl, _, _, rfl, rfl, ?_⟩
      refine ⟨_, rfl, _, rfl, e.2.2.q.u, S, rfl, rfl, e.2.2.q.u &&& S, rfl, by omega, fun H3 b s3 nb hb => ?_⟩
      refine ⟨b, _, rfl, .inl (SqL.of hb), _, rfl, _, _, rfl, rfl, _, _, rfl, rfl, (by dsimp only; decide), rfl, _, rfl, ?_⟩
      have odd := odd_test lb e.2.2.q.v
      have ec : decide (V.int ((((List.map nv (bitsL (bl (e.2.2.q.u &&& S)) (e.2.2.q.u &&& S))).length : Nat) + ((e.2.2.q.v.toNat : Nat) : Int)) % 2) = V.int 1) = (par N (e.2.2.q.u &&& S) ^^ e.2.2.q.v) := by
        rw [List.length_map]
        cases hb : (par N (e.2.2.q.u &&& S) ^^ e.2.2.q.v) <;> rw [hb] at odd
        · have o : ((bitsL (bl (e.2.2.q.u &&& S)) (e.2.2.q.u &&& S)).length + e.2.2.q.v.toNat) % 2 = 0 := odd
          refine decide_eq_false fun z => ?_
          have z2 := V.int.inj z
          omega
        · have o : ((bitsL (bl (e.2.2.q.u &&& S)) (e.2.2.q.u &&& S)).length + e.2.2.q.v.toNat) % 2 = 1 := odd
          exact decide_eq_true (congrArg V.int (by omega))
      dsimp only
      rw [ec]
      cases (par N (e.2.2.q.u &&& S) ^^ e.2.2.q.v) with
      | true =>
        refine iteT ?_
        have pos := nz _ _ (rowIs e he)
        have wide := good.wide e he
        refine ⟨_, rfl, _, rfl, _, _, rfl, rfl, e.1 - 1, rfl, congrArg V.int (by omega), by omega, S, 2 ^ (e.1 - 1), rfl, congrArg V.int (by simp), ?_⟩
        exact ⟨_, _, _, _, rfl, s1.trans s3, s3 _ _ hp⟩
      | false =>
        refine iteF ?_
        exact ⟨_, _, _, _, rfl, s1.trans s3, s3 _ _ hp⟩
    · rintro σ H1 ⟨y2, y3, y4, y5, rfl, s1, hp⟩
      rw [List.length_map, List.take_length]
      have pw : (0 :: Ls).Pairwise (· < ·) := List.pairwise_cons.mpr ⟨fun L hL => by
        obtain ⟨e, he, z⟩ := inLs L hL
        rw [← z]
        exact nz _ _ (rowIs e he), upl⟩
      have wideL : ∀ L ∈ Ls, L ≤ N := fun L hL => by
        obtain ⟨e, he, z⟩ := inLs L hL
        rw [← z]
        exact good.wide e he
      have fin := ones_ok good.kept Ls 0 0 (by decide) (fun L' r hL hr => absurd (nz L' r hr) (by omega)) pw wideL (fun L r hr => .inr (by
        unfold rowAt at hr
        cases hx : entAt es L with
        | none => rw [hx] at hr; cases hr
        | some e =>
          have m := ent_mem hx
          exact pl.mem_iff.mpr (List.mem_map.mpr ⟨e, m.1, m.2⟩)))
      obtain ⟨sats, M', hM, hin⟩ := fin
      have ois : OnesIs N (rowAt es) (Ls.foldl (stepOne N (rowAt es)) 0) := by
        refine ⟨Ls, upl, fun L => ⟨fun hL => ?_, fun ⟨r, hr⟩ => ?_⟩, rfl⟩
        · obtain ⟨e, he, z⟩ := inLs L hL
          rw [← z]
          exact ⟨_, rowIs e he⟩
        · unfold rowAt at hr
          cases hx : entAt es L with
          | none => rw [hx] at hr; cases hr
          | some e =>
            have m := ent_mem hx
            exact pl.mem_iff.mpr (List.mem_map.mpr ⟨e, m.1, m.2⟩)
      generalize Ls.foldl (stepOne N (rowAt es)) 0 = S at sats hM ois ⊢
      have SN : S < 2 ^ N := by
        rcases hin with z | z
        · subst z
          exact Nat.lt_of_lt_of_le hM (Nat.pow_le_pow_right (by decide) (Nat.zero_le _))
        · exact Nat.lt_of_lt_of_le hM (Nat.pow_le_pow_right (by decide) (wideL _ z))
      have := bl_le SN
      exact ⟨_, rfl, S, rfl, by omega, fun H2 b s2 nb hb => q H2 b S (s1.trans s2) (s1.free nb) hb SN sats ois⟩
end


end T40

/-! for i, x in enumerate(t), t a tuple -/
namespace Tm
open PySem PySem.Spec PyProof.Rows L2
/-- the cell of an enumerate that has just been made over an iterator -/
def freshEnum (it : Addr) : Obj := { cls := .type "enumerate", data := .fields #[.none, .bool false, .ref it, rawInt 0, .none, .none] }
set_option maxHeartbeats 2000000 in
theorem enum_new {v : Value} {o : Obj} {At : Heap → Prop} (begin_ : Begins v o At) :
    Meets (Builtin.«enumerate.__new__» ⟨[.type "enumerate", v], []⟩) (fun _ R s => At s.heap ∧ R (.ok (.ret (.ref (s.heap.push o).objs.size))) { s with heap := (s.heap.push o).push (freshEnum s.heap.objs.size) }) := by
  refine Meets.of_wp fun prog w A R s ⟨stands, goal⟩ => ?_
  cases s with
  | mk heap gens drawn toks os =>
    have whole := sub_enumerate
    have iterates : ∀ {B : Around} {E : Value → Shared → Prop} {Q : Value → Shared → Prop}, Q (.ref heap.objs.size) ⟨heap.push o, gens, drawn, toks, os⟩ → wpAny (model prog w) B (pyIter v) Q E ⟨heap, gens, drawn, toks, os⟩ := by
      intro B E Q q
      exact begin_.iter prog w B E ⟨heap, gens, drawn, toks, os⟩ Q stands q
    wp_walk using iterates
    apply wpAny_stack_any
    intro frames
    apply wpAny_pure
    rcases frames with _ | ⟨top, below⟩
    all_goals
      try split
      all_goals
        try (rename_i kind _ _ _ _ _; cases (kind == Value.type "enumerate"))
        all_goals
          wp_walk using iterates
          exact ⟨_, rfl, goal⟩
/-- enumerate(t) begins: its iterator, and itself -/
theorem enum_made {prog : Program} {w : World} {A : Around} {E : Value → Shared → Prop} {s : Shared} {v : Value} {o : Obj} {At : Heap → Prop} {Q : Value → Shared → Prop} (begin_ : Begins v o At) (stands : At s.heap)
    (hand : ∀ h', IsEnum h' (s.heap.objs.size + 1) s.heap.objs.size 0 .none → h'.get? s.heap.objs.size = some o → (∀ b u, s.heap.get? b = some u → h'.get? b = some u) → Q (.ref (s.heap.objs.size + 1)) { s with heap := h' }) :
    wpAny (model prog w) A (call (.type "enumerate") [v]) Q E s := by
  have next : (s.heap.push o).objs.size = s.heap.objs.size + 1 := Heap.size_push ..
  apply callType_new F.called_enumerate (by decide) (F.typeCall_enumerate_1 _) (F.newCall_enumerate_1 _) (fun obj => F.args_object_init_2 obj _) F.entry_enumerate_new (enum_new begin_)
  refine ⟨stands, ?_⟩
  have there : ((s.heap.push o).push (freshEnum s.heap.objs.size)).get? (s.heap.push o).objs.size = some (freshEnum s.heap.objs.size) := Heap.get?_push_size _ rfl
  have first : ((s.heap.push o).push (freshEnum s.heap.objs.size)).get? s.heap.objs.size = some o := Heap.get?_push_of_some _ (Heap.get?_push_size _ begin_.free)
  have more := hand ((s.heap.push o).push (freshEnum s.heap.objs.size)) (by rw [← next]; exact there) first (fun b u e => Heap.get?_push_of_some _ (Heap.get?_push_of_some _ e))
  rw [← next] at more
  exact ⟨⟨_, there, rfl⟩, more⟩
/-- what enumerate of a tuple gives out -/
def IteT (K : PySem.W.Frag) (t : Addr) : It :=
  ⟨fun i H => ∃ xs, SqT K H t xs ∧ i < xs.length, fun i H x H' => ∃ T y, x = .ref T ∧ H T = none ∧ H' = upd H T (.tup [.int (i : Nat), y]) ∧ ∀ xs, SqT K H t xs → xs[i]? = some y, fun i H => ∃ xs, SqT K H t xs ∧ xs.length = i⟩
def enumAt (N t : Addr) (i : Nat) (h : Heap) : Prop := (∃ old, IsEnum h (N + 1) N ((0 : Int) + (i : Int)) old) ∧ h.IsTupleIter N t i
theorem enum_goes {prog : Program} {w : World} {A : Around} (hh : A.handled = none) (elts : List Expr) (k : Nat) (pos : Pos) (N t : Addr) (nt : t ≠ N) (nt1 : t ≠ N + 1) (items : Array Value) :
    GoesN prog w A (.Tuple elts k pos) (N + 1) [N + 1, N, t] [N + 1, N] items.size (fun i h₀ v h => ∃ T tok x, v = .ref T ∧ h₀.objs.size ≤ T ∧ items[i]? = some x ∧ h.IsTuple T #[.int ((0 : Int) + (i : Int)) tok, x])
      (fun i h => (∃ old, IsEnum h (N + 1) N ((0 : Int) + (i : Int)) old) ∧ h.IsTupleIter N t i ∧ h.IsTuple t items) :=
  GoesN.enumFrom (prog := prog) (w := w) (A := A) (elts := elts) (x1 := k) (pos := pos) 0 (Draws.tuple (A := A.in1) hh N t nt items) (N + 1) (Nat.succ_ne_self N) (by simp only [List.mem_cons, List.not_mem_nil, or_false, not_or]; exact ⟨Nat.succ_ne_self N, fun e => nt1 e.symm⟩) (by simp)
theorem enum_obj {N t : Addr} {i : Nat} {h : Heap} (st : enumAt N t i h) : ∀ q ∈ [N + 1, N], ∃ o, h.get? q = some o ∧ ∀ v, o.data ≠ .cell v := by
  obtain ⟨⟨old, e⟩, ⟨o, g, c, d⟩⟩ := st
  intro q hq
  simp only [List.mem_cons, List.not_mem_nil, or_false] at hq
  rcases hq with rfl | rfl
  · exact ⟨_, e, fun v z => by cases z⟩
  · exact ⟨o, g, fun v z => by rw [d] at z; cases z⟩
theorem enum_turn (P : Program) (w : World) (K : PySem.W.Frag) (elts : List Expr) (k : Nat) (pos : Pos) (N t : Addr) (nt : t ≠ N) (nt1 : t ≠ N + 1) : Turn P w K (.Tuple elts k pos) (IteT K t) [N + 1, N] (N + 1) (enumAt N t) where
  mem := List.mem_cons_self ..
  obj := fun i h st => enum_obj st
  keep := by
    rintro i h h' ⟨⟨old, e⟩, it⟩ same
    exact ⟨⟨old, same _ (by simp) _ e⟩, it.at fun o z => same _ (by simp) o z⟩
  item := by
    intro X ep ew eK calm i pins s σ H E inv own st go
    subst ep ew eK
    obtain ⟨xs, sq, lt⟩ := go
    obtain ⟨its, rel, tup, room⟩ := inv.tuple sq
    have G := enum_goes (prog := X.prog) (w := X.w) (inv.ok.hd calm) elts k pos N t nt nt1 its.toArray
    have size : i < its.toArray.size := by rw [List.size_toArray, ← rel.length]; exact lt
    refine G.goes i s (fun v s2 => ∃ x H', Inv X pins σ H' s2 ∧ RelV x v ∧ (IteT X.K t).yld i H x H' ∧ enumAt N t (i + 1) s2.heap ∧ ∀ b ∈ [N + 1, N], H' b = none) E size ⟨st.1, st.2, tup⟩ ?_
    rintro v h' tk ⟨T, tok, x, rfl, new, hx, told⟩ ⟨e', it', _⟩ kept _
    obtain ⟨y, hy, rxy⟩ : ∃ y, xs[i]? = some y ∧ RelV y x := by
      obtain ⟨u, hu, ru⟩ := Vals.get rel (List.getElem?_eq_getElem lt)
      rw [List.getElem?_toArray, hu] at hx
      cases Option.some.inj hx
      exact ⟨xs[i], List.getElem?_eq_getElem lt, ru⟩
    have fresh : H T = none := inv.hok.fresh new
    have laid : ObjOk X.prog X.w (upd H T (.tup [.int (i : Nat), y])) h' T (.tup [.int (i : Nat), y]) :=
      ⟨by show 2 ≤ sizeLine; decide, [.int ((0 : Int) + (i : Int)) tok, x], .cons ⟨tok, by rw [Int.zero_add]⟩ (.cons rxy .nil), told⟩
    refine ⟨.ref T, _, inv.turnedNew kept (fun q hq => own q hq) new laid, rfl, ⟨T, y, rfl, fresh, rfl, fun ys hys => by rw [inv.tuple_inj hys sq]; exact hy⟩, ⟨e', it'⟩, fun q hq => ?_⟩
    have ne : q ≠ T := fun z => by
      obtain ⟨ob, there, _⟩ := enum_obj st q hq
      exact absurd (Nat.lt_of_lt_of_le (Heap.lt_size there) (z ▸ new)) (Nat.lt_irrefl _)
    rw [upd_ne ne]
    exact (own q hq).1
  done := by
    intro X ep ew eK calm i pins s σ H E inv own st stop
    subst ep ew eK
    obtain ⟨xs, sq, le⟩ := stop
    obtain ⟨its, rel, tup, room⟩ := inv.tuple sq
    have G := enum_goes (prog := X.prog) (w := X.w) (inv.ok.hd calm) elts k pos N t nt nt1 its.toArray
    have size : i = its.toArray.size := by rw [List.size_toArray, ← rel.length]; exact le.symm
    subst size
    refine G.stops s (L2.Inv X pins σ H) E ⟨st.1, st.2, tup⟩ fun h' tk kept _ => ?_
    exact inv.turnedL kept fun q hq => own q hq
  self := fun _ _ _ _ _ st done => let ⟨⟨_, e⟩, _⟩ := st; wpAny_pyIter_enum e done
def iEnumT (K : PySem.W.Frag) (ta : TA) : TI := fun σ H R => ta σ H fun vs H1 => ∃ t xs, vs = [.ref t] ∧ SqT K H1 t xs ∧ R (IteT K t) H1
theorem pi_enumT {X : Cx} {e : Expr} {ta : TA} {p pos tpos : Pos} {elts : List Expr} {kk : Nat} (glob : Gl X "enumerate") (free : X.mg "enumerate" = none) (args : PA X [e] ta)
    (first : starEach [e] X.env = [(false, eval e X.env)] := by rfl) (plain : (backTo pos (starEach [] X.env)).any (·.1) = false := by rfl) :
    PI X (.Tuple elts kk tpos) (.Call (.Name "enumerate" p) [e] [] pos) (iEnumT X.K ta) where
  run pins s σ H R inv ask := by
    apply wpAny_Call_Name_kw
    apply ld_blt inv glob free PyProof.Rows.boot_enumerate
    apply PyProof.Rows.callWith_type1 _ first plain
    apply wpAny_mono (args.run pos pins s σ H _ inv ask) _ (fun _ _ raised => raised)
    rintro held s1 ⟨given, H1, inv1, rel, t, xs, rfl, sq, hand⟩
    match held, rel with
    | [_], .cons rfl .nil =>
      obtain ⟨its, rv, tup, room⟩ := inv1.tuple sq
      apply enum_made (begins_tuple t its.toArray) tup
      intro heap he hi kept
      apply wpAny_pyIter_enum he
      have inv2 : L2.Inv X pins σ H1 { s1 with heap := heap } := inv1.kept (t' := s1.toks) kept
      have below : t < s1.heap.objs.size := by
        obtain ⟨o, there, _⟩ := tup
        exact Heap.lt_size there
      have N1 : s1.heap.objs.size ≤ s1.heap.objs.size + 1 := Nat.le_succ _
      refine ⟨_, [s1.heap.objs.size + 1, s1.heap.objs.size], enumAt s1.heap.objs.size t, IteT X.K t, H1, rfl, inv2, enum_turn _ _ _ _ _ _ _ _ (Nat.ne_of_lt below) (Nat.ne_of_lt (Nat.lt_succ_of_lt below)), ⟨⟨.none, he⟩, ⟨_, hi, rfl, rfl⟩⟩, fun q hq => ?_, hand⟩
      have above : s1.heap.objs.size ≤ q := by
        simp only [List.mem_cons, List.not_mem_nil, or_false] at hq
        rcases hq with rfl | rfl
        · exact N1
        · exact Nat.le_refl _
      exact inv1.fpOk (H' := H1) above (inv1.hok.fresh above)
theorem walk_enumT {K : PySem.W.Frag} {t : Addr} {xs : List V} : Walk (IteT K t) xs.length (fun H => SqT K H t xs) (fun i H v H' => ∃ T x, v = .ref T ∧ H T = none ∧ H' = upd H T (.tup [.int (i : Nat), x]) ∧ xs[i]? = some x) where
  goes i H lt here := ⟨xs, here, lt⟩
  stops H here := ⟨xs, here, rfl⟩
  yields i H v H' lt here got := by
    obtain ⟨T, x, e1, e2, e3, which⟩ := got
    exact ⟨T, x, e1, e2, e3, which xs here⟩
end Tm

namespace T40
open PySem PySem.Spec PyProof.Rows L2 Tm
abbrev sSolve : Stmt := topS 5
theorem scSolve : FnScope ["equations", "count", "rows", "index", "unknowns", "value", "row"] ["equations", "count"] (defScope sSolve) := ⟨rfl, rfl, rfl, by decide +kernel, rfl, by decide +kernel, by decide +kernel⟩
open Gauss
theorem same_tup {K : PySem.W.Frag} {H J : Hp} {a : Addr} {xs : List V} (e : Same H J) (h : SqT K H a xs) : SqT K J a xs :=
  h.imp (fun seen => seen.imp (e a _) (fun ⟨ob, at_a⟩ => ⟨ob, e a _ at_a⟩)) id
section
variable {P : Program} {w : World} {K : PySem.W.Frag} {mg : Str → Option Value} {base : Heap}
theorem ok_solveE {f fB fN fT fO : Addr} {fd fdB fdN fdT fdO : FuncData} (F : Fun K "solve" "solve" sSolve f fd) (FB : Fun K "bits_of" "bits_of" sBits fB fdB) (bB : Binds K fdB ["number"] []) (gB : mg "bits_of" = some (.ref fB))
    (FN : Fun K "number_with" "number_with" sNumW fN fdN) (bN : Binds K fdN ["places"] []) (gN : mg "number_with" = some (.ref fN))
    (FT : Fun K "row_without_tops" "row_without_tops" sTops fT fdT) (bT : Binds K fdT ["row", "rows"] []) (gT : mg "row_without_tops" = some (.ref fT))
    (FO : Fun K "ones_of" "ones_of" sOnes fO fdO) (bO : Binds K fdO ["rows"] []) (gO : mg "ones_of" = some (.ref fO)) (ms : mg "sorted" = none) (ml : mg "len" = none) (me : mg "enumerate" = none) :
    FnOk P w K mg base CX0 3 f fd ["equations", "count"] (spSolveE K) := by
  have GB : FnOk P w K mg base CX0 1 fB fdB ["number"] spBits := ok_bits FB
  have GN : FnOk P w K mg base CX0 1 fN fdN ["places"] (spNumWE K) := ok_numwE FN
  have GT : FnOk P w K mg base CX0 1 fT fdT ["row", "rows"] (spTopsE K) := ok_topsE FT
  have GO : FnOk P w K mg base CX0 2 fO fdO ["rows"] spOnesE := ok_onesE FO FB bB gB ms ml
  refine F.ok scSolve (fun vs H Q E h => ?_) (fun cdv A outer s H vs Q E hr h => ?_)
  · obtain ⟨N, p, c, tu, qs, eqs, rfl, _⟩ := h
    rfl
  · obtain ⟨N, p, c, tu, qs, eqs, rfl, hp, at0, few, hN, inN, qs1⟩ := h
    have hr1 : Room 1 _ := hr.mono (by decide)
    have seqU : ∀ {J : Hp} {u : Addr} {xs : List V}, J u = some (if tu then .tup xs else .lst xs) → SqL K J u xs ∨ SqT K J u xs := by
      intro J u xs h
      cases tu with
      | true => exact .inr (SqT.of h)
      | false => exact .inl (SqL.of h)
    rcases hp with hp | hp
    · refine ⟨_, pss_cons (ps_set (i := 2) scSolve.nd rfl (.inl rfl) pe_dnewK)
        (pss_cons (ps_for PassesOwn.never rfl (pi_enum (by rfl) me (pa_cons (pv 0) pa_nil))
            (pg_tup rfl (pgs_cons (pg_name (i := 3) scSolve.nd rfl (.inl rfl)) (pgs_cons (pg_tup rfl (pgs_cons (pg_name (i := 4) scSolve.nd rfl (.inl rfl)) (pgs_cons (pg_name (i := 5) scSolve.nd rfl (.inl rfl)) pgs_nil))) pgs_nil)))
          (pss_cons (ps_set (i := 6) scSolve.nd rfl (.inl rfl) (pe_call GT hr1 (by rfl) gT FT.kp bT .nil pass0
              (pa_cons (pe_tup (pa_cons (pe_call GN hr1 (by rfl) gN FN.kp bN .nil pass0 (pa_cons (pv 4) pa_nil)) (pa_cons (pv 5) (pa_cons (pe_op op_oneShl pe_int (pv 3)) pa_nil)))) (pa_cons (pv 2) pa_nil))))
          (pss_one (ps_if (pt_cmpR op_ne (pe_ix ix_tup (pv 6) pe_int (fun _ _ => rfl)) pe_int (nomark _))
            (pss_one (ps_dput (hu_of hr) (pv 2) (pe_bits (pe_ix ix_tup (pv 6) pe_int (fun _ _ => rfl))) (pv 6) rfl))
            (pss_one (ps_if (pt_cmpR op_eq (pe_ix ix_tup (pv 6) pe_int (fun _ _ => rfl)) pe_int (nomark _))
              (pss_one (ps_ret (pe_tup (pa_cons pe_str (pa_cons (pe_call GB hr1 (by rfl) gB FB.kp bB .nil pass0 (pa_cons (pe_ix ix_tup (pv 6) pe_int (fun _ _ => rfl)) pa_nil)) pa_nil))))) pss_nil))))))
        (pss_one (ps_ret (pe_tup (pa_cons pe_str (pa_cons (pe_call GO hr (by rfl) gO FO.kp bO .nil pass0 (pa_cons (pv 2) pa_nil)) pa_nil)))))), ?_⟩
      intro d nd
      refine ⟨_, rfl, p, _, rfl, (same_upd nd).seq hp, ?_⟩
      have lenq : (qs.map V.ref).length = eqs.length := by rw [List.length_map, at0.len]
      refine for_it (walk_numbered (xs := qs.map V.ref)) (fun i σ H' => ∃ (y3 y4 y5 y6 : Option V) (es : List Ent), σ = [some (.ref p), some c, some (.ref d), y3, y4, y5, y6] ∧ Same H H' ∧ DRows H' d es ∧ GoodW N (gOf eqs) eqs.length i es ∧ es.length ≤ i ∧ Behind (gOf eqs) i (rowAt es))
        ⟨none, none, none, none, [], rfl, same_upd nd, ⟨upd_same, fun e he => absurd he List.not_mem_nil⟩, ⟨kept_nil _ _ _, .nil, by decide, fun e he => absurd he List.not_mem_nil⟩, Nat.le_refl _, Behind.nil⟩ (fun i σ H' _ ⟨_, _, _, _, _, _, s1, _⟩ => s1.seq hp) ?_ ?_
      · rintro i v σ H1 H2 hi ⟨y3, y4, y5, y6, es, rfl, s1, hd, good, few2, beh⟩ ⟨T, x, rfl, nT, rfl, hx⟩
        rw [lenq] at hi
        have hiq : i < qs.length := by rw [at0.len]; exact hi
        rw [List.getElem?_map, List.getElem?_eq_getElem hiq] at hx
        have ev : x = .ref qs[i] := (Option.some.inj hx).symm
        subst ev
        obtain ⟨u, hq, hu⟩ := (at0.same (s1.trans (same_upd (o := .tup [.int (i : Nat), .ref qs[i]]) nT))).at_ i qs[i] eqs[i] (List.getElem?_eq_getElem hiq) (List.getElem?_eq_getElem hi)
        have inE := inN eqs[i] (List.getElem_mem hi)
        have gi : gOf eqs i = eqnOf eqs[i] := by unfold gOf; rw [List.getElem?_eq_getElem hi]
        refine ⟨T, _, rfl, SqT.of upd_same, rfl, _, _, rfl, _, _, rfl, qs[i], _, rfl, SqT.of hq, rfl, _, _, rfl, _, _, rfl, rfl, rfl, ?_⟩
        refine ⟨_, rfl, u, eqs[i].1, rfl, seqU hu, fun z hz => by have := inE z hz; omega, _, rfl, _, rfl, i, rfl, rfl, by omega, (by show 3 ≤ sizeLine; decide), fun t nt => ⟨_, rfl, ?_⟩⟩
        have e2 : V.int ((2 : Int) ^ i) = nv (2 ^ i) := congrArg V.int (by simp)
        rw [e2]
        have fair0 : (⟨gOf eqs i, 2 ^ i⟩ : Rw).fair (gOf eqs) eqs.length (i + 1) := ⟨(comb_one (g := gOf eqs) hi).symm, Nat.pow_lt_pow_right (by decide) (Nat.lt_succ_self i)⟩
        have sA : Same H1 (upd (upd H1 T (.tup [.int (i : Nat), .ref qs[i]])) t (.tup [nv (numL eqs[i].1), nv eqs[i].2.toNat, nv (2 ^ i)])) := (same_upd nT).trans (same_upd nt)
        refine ⟨N, gOf eqs, eqs.length, i, i + 1, t, d, es, ⟨gOf eqs i, 2 ^ i⟩, rfl, ?_, hd.same sA, good.kept, Nat.le_succ _, fair0, fun H3 o r s3 no ho reach new ends => ?_⟩
        · rw [gi]
          exact SqT.of upd_same
        have s13 := sA.trans s3
        have hd3 := hd.same s13
        refine ⟨_, rfl, o, rowT r, 0, _, rfl, rfl, SqT.of ho, rfl, rfl, _, rfl, ?_⟩
        have wide : bl r.q.u ≤ N := by
          refine Nat.le_trans reach.less ?_
          rw [gi]
          exact bl_le (num_lt _ 0 inE (Nat.two_pow_pos _))
        by_cases z : r.q.u = 0
        · have ez : (!decide (nv r.q.u = V.int 0)) = false := by
            rw [z]
            rfl
          rw [ez]
          refine iteF ?_
          refine ⟨_, rfl, o, rowT r, 1, _, rfl, rfl, SqT.of ho, rfl, rfl, _, rfl, ?_⟩
          cases hv : r.q.v with
          | true =>
            have e1 : decide (nv (Bool.toNat true) = V.int 1) = true := rfl
            rw [e1]
            refine iteT ?_
            refine ⟨_, rfl, o, rowT r, 2, _, rfl, rfl, SqT.of ho, rfl, r.c, rfl, ?_, fun H4 b s4 nb hb => ⟨(by show 2 ≤ sizeLine; decide), fun a na => ?_⟩⟩
            · have := bl_le reach.fair.2
              omega
            refine qs1 _ a (.inr r.c) (s1.trans (s13.trans (s4.trans (same_upd na)))) ((s1.trans (s13.trans s4)).free na) ⟨b, upd_same, (same_upd na) _ _ hb⟩ ⟨?_, ?_, ?_⟩ ⟨i, _, r, hi, beh, ends, z, hv, rfl⟩
            · exact Nat.lt_of_lt_of_le reach.fair.2 (Nat.pow_le_pow_right (by decide) hi)
            · rw [← reach.fair.1]; exact z
            · rw [← reach.fair.1]; exact hv
          | false =>
            have e1 : decide (nv (Bool.toNat false) = V.int 1) = false := rfl
            rw [e1]
            refine iteF ?_
            exact ⟨_, _, _, _, es, rfl, s1.trans s13, hd3, ⟨good.kept.none rfl reach z hv, good.uniq, good.few, good.wide⟩, by omega, .same beh ends z hv⟩
        · have ez : (!decide (nv r.q.u = V.int 0)) = true := by
            rw [decide_eq_false (fun q => z (by have := V.int.inj q; omega))]
            rfl
          rw [ez]
          refine iteT ?_
          have kb : V.int ((Builtin.Int.intBits ((r.q.u : Nat) : Int) : Nat) : Int) = kV (Sum.inl ((bl r.q.u : Nat) : Int)) := by rw [bl_int]; rfl
          have stored := DPut.k (k := Sum.inl ((bl r.q.u : Nat) : Int)) (v := V.ref o) hd3.dict (by unfold entK; rw [List.length_map]; exact small1000 (by omega))
          rw [← kb, ← ent_new new o r] at stored
          refine ⟨_, rfl, _, rfl, _, rfl, o, rowT r, 0, _, rfl, rfl, SqT.of ho, rfl, _, rfl, d, _, rfl, stored, ?_⟩
          have nod : o ≠ d := fun e => by rw [e, hd3.dict] at ho; cases ho
          have none2 : rowAt es (bl r.q.u) = none := by unfold rowAt; rw [new]; rfl
          refine ⟨_, _, _, _, es ++ [(bl r.q.u, o, r)], rfl, same_put (s1.trans s13) nd, ⟨upd_same, fun e he => ?_⟩, ⟨?_, ?_, by rw [List.length_append]; show es.length + 1 ≤ 400; omega, fun e he => ?_⟩, by rw [List.length_append]; show es.length + 1 ≤ i + 1; omega, by rw [row_new new]; exact .more beh ends z⟩
          · rcases List.mem_append.mp he with he | he
            · have ne : e.2.1 ≠ d := fun q => by
                have h := hd3.rows e he
                rw [q, hd3.dict] at h
                cases h
              rw [upd_ne ne]
              exact hd3.rows e he
            · rw [List.mem_singleton.mp he]
              show upd H3 d _ o = _
              rw [upd_ne nod]
              exact ho
          · rw [row_new new]
            exact good.kept.more rfl reach z none2
          · rw [List.map_append, List.nodup_append]
            refine ⟨good.uniq, List.nodup_cons.mpr ⟨List.not_mem_nil, .nil⟩, fun a ha b hb e => ?_⟩
            obtain ⟨e1, he1, ea⟩ := List.mem_map.mp ha
            have eb : b = bl r.q.u := List.mem_singleton.mp hb
            have h := ent_is good.uniq he1
            rw [ea, e, eb, new] at h
            cases h
          · rcases List.mem_append.mp he with he | he
            · exact good.wide e he
            · rw [List.mem_singleton.mp he]; exact wide
      · rintro σ H1 ⟨y3, y4, y5, y6, es, rfl, s1, hd, good, few2, beh⟩
        rw [lenq] at good beh
        refine ⟨_, rfl, N, gOf eqs, eqs.length, eqs.length, d, es, rfl, hd, good, by omega, fun H2 b S s2 nb hb hS sats ois => ⟨(by show 2 ≤ sizeLine; decide), fun a na => ?_⟩⟩
        exact qs1 _ a (.inl S) (s1.trans (s2.trans (same_upd na))) ((s1.trans s2).free na) ⟨b, upd_same, (same_upd na) _ _ hb⟩ ⟨hS, sats⟩ ⟨_, beh, ois⟩
    · refine ⟨_, pss_cons (ps_set (i := 2) scSolve.nd rfl (.inl rfl) pe_dnewK)
        (pss_cons (ps_for PassesOwn.never rfl (pi_enumT (by rfl) me (pa_cons (pv 0) pa_nil))
            (pg_tup rfl (pgs_cons (pg_name (i := 3) scSolve.nd rfl (.inl rfl)) (pgs_cons (pg_tup rfl (pgs_cons (pg_name (i := 4) scSolve.nd rfl (.inl rfl)) (pgs_cons (pg_name (i := 5) scSolve.nd rfl (.inl rfl)) pgs_nil))) pgs_nil)))
          (pss_cons (ps_set (i := 6) scSolve.nd rfl (.inl rfl) (pe_call GT hr1 (by rfl) gT FT.kp bT .nil pass0
              (pa_cons (pe_tup (pa_cons (pe_call GN hr1 (by rfl) gN FN.kp bN .nil pass0 (pa_cons (pv 4) pa_nil)) (pa_cons (pv 5) (pa_cons (pe_op op_oneShl pe_int (pv 3)) pa_nil)))) (pa_cons (pv 2) pa_nil))))
          (pss_one (ps_if (pt_cmpR op_ne (pe_ix ix_tup (pv 6) pe_int (fun _ _ => rfl)) pe_int (nomark _))
            (pss_one (ps_dput (hu_of hr) (pv 2) (pe_bits (pe_ix ix_tup (pv 6) pe_int (fun _ _ => rfl))) (pv 6) rfl))
            (pss_one (ps_if (pt_cmpR op_eq (pe_ix ix_tup (pv 6) pe_int (fun _ _ => rfl)) pe_int (nomark _))
              (pss_one (ps_ret (pe_tup (pa_cons pe_str (pa_cons (pe_call GB hr1 (by rfl) gB FB.kp bB .nil pass0 (pa_cons (pe_ix ix_tup (pv 6) pe_int (fun _ _ => rfl)) pa_nil)) pa_nil))))) pss_nil))))))
        (pss_one (ps_ret (pe_tup (pa_cons pe_str (pa_cons (pe_call GO hr (by rfl) gO FO.kp bO .nil pass0 (pa_cons (pv 2) pa_nil)) pa_nil)))))), ?_⟩
      intro d nd
      refine ⟨_, rfl, p, _, rfl, same_tup (same_upd nd) hp, ?_⟩
      have lenq : (qs.map V.ref).length = eqs.length := by rw [List.length_map, at0.len]
      refine for_it (walk_enumT (xs := qs.map V.ref)) (fun i σ H' => ∃ (y3 y4 y5 y6 : Option V) (es : List Ent), σ = [some (.ref p), some c, some (.ref d), y3, y4, y5, y6] ∧ Same H H' ∧ DRows H' d es ∧ GoodW N (gOf eqs) eqs.length i es ∧ es.length ≤ i ∧ Behind (gOf eqs) i (rowAt es))
        ⟨none, none, none, none, [], rfl, same_upd nd, ⟨upd_same, fun e he => absurd he List.not_mem_nil⟩, ⟨kept_nil _ _ _, .nil, by decide, fun e he => absurd he List.not_mem_nil⟩, Nat.le_refl _, Behind.nil⟩ (fun i σ H' _ ⟨_, _, _, _, _, _, s1, _⟩ => same_tup s1 hp) ?_ ?_
      · rintro i v σ H1 H2 hi ⟨y3, y4, y5, y6, es, rfl, s1, hd, good, few2, beh⟩ ⟨T, x, rfl, nT, rfl, hx⟩
        rw [lenq] at hi
        have hiq : i < qs.length := by rw [at0.len]; exact hi
        rw [List.getElem?_map, List.getElem?_eq_getElem hiq] at hx
        have ev : x = .ref qs[i] := (Option.some.inj hx).symm
        subst ev
        obtain ⟨u, hq, hu⟩ := (at0.same (s1.trans (same_upd (o := .tup [.int (i : Nat), .ref qs[i]]) nT))).at_ i qs[i] eqs[i] (List.getElem?_eq_getElem hiq) (List.getElem?_eq_getElem hi)
        have inE := inN eqs[i] (List.getElem_mem hi)
        have gi : gOf eqs i = eqnOf eqs[i] := by unfold gOf; rw [List.getElem?_eq_getElem hi]
        refine ⟨T, _, rfl, SqT.of upd_same, rfl, _, _, rfl, _, _, rfl, qs[i], _, rfl, SqT.of hq, rfl, _, _, rfl, _, _, rfl, rfl, rfl, ?_⟩
        refine ⟨_, rfl, u, eqs[i].1, rfl, seqU hu, fun z hz => by have := inE z hz; omega, _, rfl, _, rfl, i, rfl, rfl, by omega, (by show 3 ≤ sizeLine; decide), fun t nt => ⟨_, rfl, ?_⟩⟩
        have e2 : V.int ((2 : Int) ^ i) = nv (2 ^ i) := congrArg V.int (by simp)
        rw [e2]
        have fair0 : (⟨gOf eqs i, 2 ^ i⟩ : Rw).fair (gOf eqs) eqs.length (i + 1) := ⟨(comb_one (g := gOf eqs) hi).symm, Nat.pow_lt_pow_right (by decide) (Nat.lt_succ_self i)⟩
        have sA : Same H1 (upd (upd H1 T (.tup [.int (i : Nat), .ref qs[i]])) t (.tup [nv (numL eqs[i].1), nv eqs[i].2.toNat, nv (2 ^ i)])) := (same_upd nT).trans (same_upd nt)
        refine ⟨N, gOf eqs, eqs.length, i, i + 1, t, d, es, ⟨gOf eqs i, 2 ^ i⟩, rfl, ?_, hd.same sA, good.kept, Nat.le_succ _, fair0, fun H3 o r s3 no ho reach new ends => ?_⟩
        · rw [gi]
          exact SqT.of upd_same
        have s13 := sA.trans s3
        have hd3 := hd.same s13
        refine ⟨_, rfl, o, rowT r, 0, _, rfl, rfl, SqT.of ho, rfl, rfl, _, rfl, ?_⟩
        have wide : bl r.q.u ≤ N := by
          refine Nat.le_trans reach.less ?_
          rw [gi]
          exact bl_le (num_lt _ 0 inE (Nat.two_pow_pos _))
        by_cases z : r.q.u = 0
        · have ez : (!decide (nv r.q.u = V.int 0)) = false := by
            rw [z]
            rfl
          rw [ez]
          refine iteF ?_
          refine ⟨_, rfl, o, rowT r, 1, _, rfl, rfl, SqT.of ho, rfl, rfl, _, rfl, ?_⟩
          cases hv : r.q.v with
          | true =>
            have e1 : decide (nv (Bool.toNat true) = V.int 1) = true := rfl
            rw [e1]
            refine iteT ?_
            refine ⟨_, rfl, o, rowT r, 2, _, rfl, rfl, SqT.of ho, rfl, r.c, rfl, ?_, fun H4 b s4 nb hb => ⟨(by show 2 ≤ sizeLine; decide), fun a na => ?_⟩⟩
            · have := bl_le reach.fair.2
              omega
            refine qs1 _ a (.inr r.c) (s1.trans (s13.trans (s4.trans (same_upd na)))) ((s1.trans (s13.trans s4)).free na) ⟨b, upd_same, (same_upd na) _ _ hb⟩ ⟨?_, ?_, ?_⟩ ⟨i, _, r, hi, beh, ends, z, hv, rfl⟩
            · exact Nat.lt_of_lt_of_le reach.fair.2 (Nat.pow_le_pow_right (by decide) hi)
            · rw [← reach.fair.1]; exact z
            · rw [← reach.fair.1]; exact hv
          | false =>
            have e1 : decide (nv (Bool.toNat false) = V.int 1) = false := rfl
            rw [e1]
            refine iteF ?_
            exact ⟨_, _, _, _, es, rfl, s1.trans s13, hd3, ⟨good.kept.none rfl reach z hv, good.uniq, good.few, good.wide⟩, by omega, .same beh ends z hv⟩
        · have ez : (!decide (nv r.q.u = V.int 0)) = true := by
            rw [decide_eq_false (fun q => z (by have := V.int.inj q; omega))]
            rfl
          rw [ez]
          refine iteT ?_
          have kb : V.int ((Builtin.Int.intBits ((r.q.u : Nat) : Int) : Nat) : Int) = kV (Sum.inl ((bl r.q.u : Nat) : Int)) := by rw [bl_int]; rfl
          have stored := DPut.k (k := Sum.inl ((bl r.q.u : Nat) : Int)) (v := V.ref o) hd3.dict (by unfold entK; rw [List.length_map]; exact small1000 (by omega))
          rw [← kb, ← ent_new new o r] at stored
          refine ⟨_, rfl, _, rfl, _, rfl, o, rowT r, 0, _, rfl, rfl, SqT.of ho, rfl, _, rfl, d, _, rfl, stored, ?_⟩
          have nod : o ≠ d := fun e => by rw [e, hd3.dict] at ho; cases ho
          have none2 : rowAt es (bl r.q.u) = none := by unfold rowAt; rw [new]; rfl
          refine ⟨_, _, _, _, es ++ [(bl r.q.u, o, r)], rfl, same_put (s1.trans s13) nd, ⟨upd_same, fun e he => ?_⟩, ⟨?_, ?_, by rw [List.length_append]; show es.length + 1 ≤ 400; omega, fun e he => ?_⟩, by rw [List.length_append]; show es.length + 1 ≤ i + 1; omega, by rw [row_new new]; exact .more beh ends z⟩
          · rcases List.mem_append.mp he with he | he
            · have ne : e.2.1 ≠ d := fun q => by
                have h := hd3.rows e he
                rw [q, hd3.dict] at h
                cases h
              rw [upd_ne ne]
              exact hd3.rows e he
            · rw [List.mem_singleton.mp he]
              show upd H3 d _ o = _
              rw [upd_ne nod]
              exact ho
          · rw [row_new new]
            exact good.kept.more rfl reach z none2
          · rw [List.map_append, List.nodup_append]
            refine ⟨good.uniq, List.nodup_cons.mpr ⟨List.not_mem_nil, .nil⟩, fun a ha b hb e => ?_⟩
            obtain ⟨e1, he1, ea⟩ := List.mem_map.mp ha
            have eb : b = bl r.q.u := List.mem_singleton.mp hb
            have h := ent_is good.uniq he1
            rw [ea, e, eb, new] at h
            cases h
          · rcases List.mem_append.mp he with he | he
            · exact good.wide e he
            · rw [List.mem_singleton.mp he]; exact wide
      · rintro σ H1 ⟨y3, y4, y5, y6, es, rfl, s1, hd, good, few2, beh⟩
        rw [lenq] at good beh
        refine ⟨_, rfl, N, gOf eqs, eqs.length, eqs.length, d, es, rfl, hd, good, by omega, fun H2 b S s2 nb hb hS sats ois => ⟨(by show 2 ≤ sizeLine; decide), fun a na => ?_⟩⟩
        exact qs1 _ a (.inl S) (s1.trans (s2.trans (same_upd na))) ((s1.trans s2).free na) ⟨b, upd_same, (same_upd na) _ _ hb⟩ ⟨hS, sats⟩ ⟨_, beh, ois⟩
end


end T40

namespace T40
open PySem PySem.Spec PyProof.Rows L2 Tm
abbrev sLSum : Stmt := topS 12
theorem scLSum : FnScope ["_law_rows", "_law_whole", "_law_row", "_law_one"] ["_law_rows"] (defScope sLSum) := ⟨rfl, rfl, rfl, by decide +kernel, rfl, by decide +kernel, by decide +kernel⟩
def spLSumIE (K : PySem.W.Frag) : Sp := fun vs H Q _ => ∃ (p : Addr) (ps : List Addr) (rs : List (List Int)), vs = [.ref p] ∧ SqL K H p (ps.map V.ref) ∧ RowsI K H ps rs ∧ rs.flatten.length ≤ 1000 ∧
  ∀ (H' : Hp) (q : Addr) (ys : List Int), Same H H' → H q = none → H' q = some (.lst (ys.map V.int)) → ys.Pairwise (· < ·) → (∀ z : Int, z ∈ ys ↔ rs.flatten.count z % 2 = 1) → Q (.ref q) H'
section
variable {P : Program} {w : World} {K : PySem.W.Frag} {mg : Str → Option Value} {base : Heap}
theorem ok_lsumIE {f : Addr} {fd : FuncData} (F : Fun K "_law_sum" "_law_sum" sLSum f fd) (ms : mg "sorted" = none) (mset : mg "set" = none) (ml : mg "list" = none) : FnOk P w K mg base CX0 1 f fd ["_law_rows"] (spLSumIE K) := by
  refine F.ok scLSum (fun vs H Q E h => ?_) (fun cdv A outer s H vs Q E hr h => ?_)
  · obtain ⟨p, ps, rs, rfl, _⟩ := h
    rfl
  · obtain ⟨p, ps, rs, rfl, hp, rows, many, q⟩ := h
    refine ⟨_, pss_cons (ps_set (i := 1) scLSum.nd rfl (.inr rfl) (pe_lst pa_nil))
      (pss_cons (ps_for PassesOwn.never rfl (pi_list (pv 0)) (pg_name (i := 2) scLSum.nd rfl (.inl rfl))
        (pss_one (ps_set (i := 1) scLSum.nd rfl (.inr rfl) (pe_op op_cat (pv 1) (pe_callTy call_list_of (by rfl) ml boot_list (pa_cons (pv 2) pa_nil))))))
      (pss_one (ps_ret (pe_lc (own := [("_law_one", 3)]) (g := gName 3) rfl scLSum.nd (pi_list (pe_callB (call_sortIS rfl) (by rfl) ms boot_sorted (pa_cons (pe_callTy (call_setInts rfl) (by rfl) mset boot_set (pa_cons (pv 1) pa_nil)) pa_nil)))
        (blkOk_by (own := [("_law_one", 3)]) (N := ["_law_rows", "_law_whole", "_law_row", "_law_one"]) (sc := defScope sLSum) (by decide +kernel)) (fun _ _ _ _ _ => pg_name (i := 3) scLSum.nd rfl (Or.inl rfl))
        (fun _ _ _ _ _ => pts_one (pt_cmpR op_eq (pe_op op_mod (show PE _ _ (tBM K "list" (rCntI K) (tVar 1) (tCons (tVar 3) tNil)) from pe_bm PySem.F.plainAttrs_list PySem.F.slot_list_count PySem.F.type_list_count mt_lcount (pv 1) (pa_cons (pv 3) pa_nil)) pe_int) pe_int (nomark _))) (fun _ _ _ _ _ => pv 3))))), ?_⟩
    refine ⟨Nat.zero_le _, fun o no => ?_⟩
    have lenp : (ps.map V.ref).length = rs.length := by rw [List.length_map, rows.1]
    have flat_take : ∀ i, (rs.take i).flatten.length ≤ rs.flatten.length := fun i => by
      have e : rs.flatten = (rs.take i).flatten ++ (rs.drop i).flatten := by rw [← List.flatten_append, List.take_append_drop]
      rw [e, List.length_append]; omega
    refine ⟨_, rfl, p, rfl, ⟨_, (same_upd no).seq hp⟩, ?_⟩
    refine for_it (walk_list (xs := ps.map V.ref)) (fun i σ H' => ∃ (o' : Addr) (y2 y3 : Option V), σ = [some (.ref p), some (.ref o'), y2, y3] ∧ Same H H' ∧ H o' = none ∧ H' o' = some (.lst (((rs.take i).flatten).map V.int)))
      ⟨o, none, none, rfl, same_upd no, no, upd_same⟩ (fun i σ H' _ ⟨_, _, _, _, s1, _⟩ => s1.seq hp) ?_ ?_
    · rintro i v σ H1 H2 hi ⟨o', y2, y3, rfl, s1, fo, ho⟩ ⟨rfl, hv⟩
      rw [lenp] at hi
      have hip : i < ps.length := by rw [rows.1]; exact hi
      rw [List.getElem?_map, List.getElem?_eq_getElem hip] at hv
      have ev : v = .ref ps[i] := (Option.some.inj hv).symm
      subst ev
      have stands := (rows.same s1).2 i ps[i] rs[i] (List.getElem?_eq_getElem hip) (List.getElem?_eq_getElem hi)
      refine ⟨_, rfl, _, rfl, ps[i], _, rfl, .inl stands, fun c nc => ?_⟩
      have e1 := flat_take (i + 1)
      rw [List.take_succ_eq_append_getElem hi, List.flatten_append, List.length_append] at e1
      have e2 : ([rs[i]] : List (List Int)).flatten = rs[i] := by simp
      rw [e2] at e1
      refine ⟨o', c, _, _, rfl, rfl, (same_upd nc) _ _ ho, upd_same, ?_, fun t nt => ?_⟩
      · rw [List.length_map, List.length_map]
        exact Nat.le_of_lt (small1000 (by omega))
      · refine ⟨t, _, _, rfl, (s1.trans (same_upd nc)).trans (same_upd nt), s1.free ((same_upd nc).free nt), ?_⟩
        rw [upd_same, List.take_succ_eq_append_getElem hi, List.flatten_append, e2, List.map_append]
    · rintro σ H1 ⟨o', y2, y3, rfl, s1, fo, ho⟩
      rw [lenp, List.take_length] at ho
      refine ⟨_, rfl, o', rs.flatten, rfl, SqL.of ho, by omega, fun a nn na hnn => ⟨a, _, _, rfl, upd_same, by omega, fun up c srt mem len nc => ?_⟩⟩
      have upm : ∀ z, z ∈ up ↔ z ∈ rs.flatten := fun z => (mem z).trans decide_eq_true_iff
      have upl : up.length ≤ 1000 := by omega
      have sA : Same H1 (upd (upd H1 a (SetO w a (fun j => decide (j ∈ rs.flatten)) nn)) c (.lst (up.map V.int))) := (same_upd na).trans (same_upd nc)
      have hc : (upd (upd H1 a (SetO w a (fun j => decide (j ∈ rs.flatten)) nn)) c (.lst (up.map V.int))) c = some (.lst (up.map V.int)) := upd_same
      have ho2 := sA _ _ ho
      refine ⟨c, rfl, ⟨_, SqL.of hc⟩, fun D nD => ?_⟩
      have fD : H D = none := (s1.trans sA).free nD
      refine lc_list (K := K) (a := c) (xs := up.map V.int) (fun i H' => Same (upd (upd H1 a (SetO w a (fun j => decide (j ∈ rs.flatten)) nn)) c (.lst (up.map V.int))) H' ∧ H' D = some (.lst (((up.take i).filter fun z => decide (rs.flatten.count z % 2 = 1)).map V.int))) ⟨same_upd nD, upd_same⟩ (fun i H' _ hv => SqL.of (hv.1 _ _ hc)) ?_ ?_
      · rintro i v H3 hv ⟨s3, hD⟩
        rw [List.getElem?_map] at hv
        cases ex : up[i]? with
        | none => rw [ex] at hv; cases hv
        | some z =>
          rw [ex] at hv
          have ev : v = .int z := (Option.some.inj hv).symm
          subst ev
          have hi : i < up.length := (List.getElem?_eq_some_iff.mp ex).1
          refine ⟨rfl, ?_⟩
          refine ⟨_, rfl, .inl ⟨rfl, _, SqL.of (s3 _ _ ho2)⟩, _, rfl, o', rs.flatten, z, rfl, rfl, SqL.of (s3 _ _ ho2), _, _, rfl, rfl, (by dsimp only; decide), rfl, _, rfl, ?_⟩
          have et : up.take (i + 1) = up.take i ++ [z] := by rw [List.take_succ, ex]; rfl
          have ec : decide (V.int (((rs.flatten.count z : Nat) : Int) % 2) = V.int 1) = decide (rs.flatten.count z % 2 = 1) := by
            apply decide_eq_decide.mpr
            constructor
            · intro e
              have e2 := V.int.inj e
              omega
            · intro e
              exact congrArg V.int (by omega)
          rw [ec]
          by_cases hz : rs.flatten.count z % 2 = 1
          · rw [decide_eq_true hz]
            refine iteT ⟨_, rfl, _, hD, ?_, same_put s3 nD, ?_⟩
            · rw [List.length_map]
              refine Nat.lt_of_le_of_lt (List.length_filter_le _ _) ?_
              rw [List.length_take]
              exact small1000 (by omega)
            · rw [upd_same, et, List.filter_append, List.map_append]
              simp [hz]
          · rw [decide_eq_false hz]
            refine iteF ⟨s3, ?_⟩
            rw [hD, et, List.filter_append, List.map_append]
            simp [hz]
      · rintro H3 ⟨s3, hD⟩
        rw [List.length_map, List.take_length] at hD
        refine q H3 D _ ((s1.trans sA).trans s3) fD hD (srt.filter _) fun z => ?_
        rw [List.mem_filter, upm z]
        constructor
        · exact fun h => of_decide_eq_true h.2
        · intro h
          exact ⟨List.count_pos_iff.mp (by omega), decide_eq_true h⟩
end


end T40

namespace T40
open PySem PySem.Spec PyProof.Rows L2 Tm
abbrev sEqs : Stmt := topS 13
theorem scEqs : FnScope ["_law_bag_here", "_law_mcount", "_law_rows", "_law_k", "_law_unknowns", "_law_value", "_law_first", "_law_last", "_law_one"] ["_law_bag_here", "_law_mcount"] (defScope sEqs) := ⟨rfl, rfl, rfl, by decide +kernel, rfl, by decide +kernel, by decide +kernel⟩
def spEqs : Sp := fun vs H Q _ => ∃ (b l : Addr) (m : Nat), vs = [.ref b, nv m] ∧ Bag H b l ∧ m ≤ 9 ∧
  ∀ H' R qs eqs, Kp b H H' → Bag H' b l → H R = none → H' R = some (.lst (qs.map V.ref)) → EqsAt H' qs eqs → eqs.length ≤ 12 → (∀ e ∈ eqs, e.1.Nodup ∧ ∀ z ∈ e.1, z < m) → Q (.ref R) H'
/-- equations that stand apart from the bag b and the list R -/
structure EqA (H : Hp) (b R : Addr) (qs : List Addr) (eqs : List (List Nat × Bool)) : Prop where
  len : qs.length = eqs.length
  at_ : ∀ (i : Nat) (q : Addr) (e : List Nat × Bool), qs[i]? = some q → eqs[i]? = some e → ∃ u, u ≠ b ∧ u ≠ R ∧ q ≠ b ∧ q ≠ R ∧ H q = some (.tup [.ref u, nv e.2.toNat]) ∧ H u = some (.lst (e.1.map nv))
theorem EqA.kp {H H' : Hp} {b R : Addr} {qs : List Addr} {eqs : List (List Nat × Bool)} (h : EqA H b R qs eqs) (k : Kp b H H') : EqA H' b R qs eqs :=
  ⟨h.len, fun i q e hq he => let ⟨u, n1, n2, n3, n4, h1, h2⟩ := h.at_ i q e hq he; ⟨u, n1, n2, n3, n4, k _ _ n3 h1, k _ _ n1 h2⟩⟩
theorem EqA.put {H : Hp} {b R : Addr} {qs : List Addr} {eqs : List (List Nat × Bool)} {o : HO} (h : EqA H b R qs eqs) : EqA (upd H R o) b R qs eqs :=
  ⟨h.len, fun i q e hq he => let ⟨u, n1, n2, n3, n4, h1, h2⟩ := h.at_ i q e hq he; ⟨u, n1, n2, n3, n4, by rw [upd_ne n4]; exact h1, by rw [upd_ne n2]; exact h2⟩⟩
theorem EqA.eqs {H : Hp} {b R : Addr} {qs : List Addr} {eqs : List (List Nat × Bool)} (h : EqA H b R qs eqs) : EqsAt H qs eqs :=
  ⟨h.len, fun i q e hq he => let ⟨u, _, _, _, _, h1, h2⟩ := h.at_ i q e hq he; ⟨u, h1, h2⟩⟩
theorem EqA.snoc {H : Hp} {b R : Addr} {qs : List Addr} {eqs : List (List Nat × Bool)} {q u : Addr} {e : List Nat × Bool} (h : EqA H b R qs eqs) (n1 : u ≠ b) (n2 : u ≠ R) (n3 : q ≠ b) (n4 : q ≠ R) (h1 : H q = some (.tup [.ref u, nv e.2.toNat])) (h2 : H u = some (.lst (e.1.map nv))) : EqA H b R (qs ++ [q]) (eqs ++ [e]) := by
  refine ⟨by rw [List.length_append, List.length_append, h.len]; rfl, fun i a c ha hc => ?_⟩
  by_cases lt : i < qs.length
  · rw [List.getElem?_append_left lt] at ha
    rw [List.getElem?_append_left (by rw [← h.len]; exact lt)] at hc
    exact h.at_ i a c ha hc
  · rw [List.getElem?_append_right (by omega)] at ha
    rw [List.getElem?_append_right (by rw [← h.len]; omega)] at hc
    have hi : i - qs.length = 0 := by
      have := (List.getElem?_eq_some_iff.mp ha).1
      simp at this
      omega
    rw [hi] at ha
    rw [← h.len, hi] at hc
    cases ha
    cases hc
    exact ⟨u, n1, n2, n3, n4, h1, h2⟩
theorem bit_of {d : Int} (h0 : 0 ≤ d) (h1 : d < 2) : ∃ v : Bool, V.int d = nv v.toNat := by
  by_cases h : d = 0
  · exact ⟨false, by rw [h]; rfl⟩
  · exact ⟨true, by rw [show d = 1 from by omega]; rfl⟩
theorem perm_nums {ys : List V} {us : List Nat} (h : ys.Perm (us.map nv)) : ∃ ms : List Nat, ys = ms.map nv ∧ ms.Perm us := by
  let f : V → Nat := fun v => match v with
    | .int z => z.toNat
    | _ => 0
  have back : ∀ y ∈ ys, (nv ∘ f) y = id y := by
    intro y hy
    obtain ⟨c, _, rfl⟩ := List.mem_map.mp (h.mem_iff.mp hy)
    rfl
  refine ⟨ys.map f, ?_, ?_⟩
  · rw [List.map_map, List.map_congr_left back, List.map_id]
  · have h2 := h.map f
    rw [List.map_map, show f ∘ nv = id from rfl, List.map_id] at h2
    exact h2
section
variable {P : Program} {w : World} {K : PySem.W.Frag} {mg : Str → Option Value} {base : Heap}
theorem ok_eqs {f fP fO fM fW : Addr} {fd fdP fdO fdM fdW : FuncData} (F : Fun K "_law_equations" "_law_equations" sEqs f fd)
    (FP : Fun K "_law_pull" "_law_pull" sPull fP fdP) (bP : Binds K fdP ["_law_bag_here", "_law_many"] []) (gP : mg "_law_pull" = some (.ref fP))
    (FO : Fun K "_law_of" "_law_of" sOf fO fdO) (bO : Binds K fdO ["_law_bag_here", "_law_things"] []) (gO : mg "_law_of" = some (.ref fO))
    (FM : Fun K "_law_mixed" "_law_mixed" sMixed fM fdM) (bM : Binds K fdM ["_law_bag_here", "_law_things"] []) (gM : mg "_law_mixed" = some (.ref fM))
    (FW : Fun K "_law_sum" "_law_sum" sLSum fW fdW) (bW : Binds K fdW ["_law_rows"] []) (gW : mg "_law_sum" = some (.ref fW))
    (ml : mg "len" = none) (mli : mg "list" = none) (mr : mg "range" = none) (ms : mg "sorted" = none) (mset : mg "set" = none) (mi : mg "int" = none) :
    FnOk P w K mg base CX0 3 f fd ["_law_bag_here", "_law_mcount"] spEqs := by
  have GP : FnOk P w K mg base CX0 1 fP fdP ["_law_bag_here", "_law_many"] spPull := ok_pull FP ml
  have GO : FnOk P w K mg base CX0 2 fO fdO ["_law_bag_here", "_law_things"] (spOf K) := ok_of FO FP bP gP ml
  have GM : FnOk P w K mg base CX0 2 fM fdM ["_law_bag_here", "_law_things"] (spMixed K) := ok_mixed FM FP bP gP ml mli mr
  have GW : FnOk P w K mg base CX0 1 fW fdW ["_law_rows"] (spLSumIE K) := ok_lsumIE FW ms mset mli
  refine F.ok scEqs (fun vs H Q E h => ?_) (fun cdv A outer s H vs Q E hr h => ?_)
  · obtain ⟨b, l, m, rfl, _⟩ := h
    rfl
  · obtain ⟨b, l, m, rfl, B0, hm, q⟩ := h
    have hr2 : Room 2 _ := hr
    have hr1 : Room 1 _ := hr.mono (by decide)
    refine ⟨_, pss_cons (ps_set (i := 2) scEqs.nd rfl (.inl rfl) (pe_lst pa_nil))
      (pss_cons (ps_for PassesOwn.never rfl (pi_range1 (by rfl) mr (pa_cons (pe_call GP hr1 (by rfl) gP FP.kp bP .nil pass0 (pa_cons (pv 0) (pa_cons pe_int pa_nil))) pa_nil)) (pg_name (i := 3) scEqs.nd rfl (.inl rfl))
        (pss_cons (ps_par (i := 4) (j := 5) rfl scEqs.nd rfl rfl (by decide) rfl rfl
            (pa_cons (pe_lc (own := [("_law_one", 8)]) (g := gName 8) rfl scEqs.nd (pi_range1 (by rfl) mr (pa_cons (pv 1) pa_nil)) (blkOk_by (own := [("_law_one", 8)]) (N := ["_law_bag_here", "_law_mcount", "_law_rows", "_law_k", "_law_unknowns", "_law_value", "_law_first", "_law_last", "_law_one"]) (sc := defScope sEqs) (by decide +kernel))
                (fun _ _ _ _ _ => pg_name (i := 8) scEqs.nd rfl (Or.inl rfl)) (fun _ _ _ _ _ => pts_one (pt_cmpR op_eq (pe_call GP hr1 (by rfl) gP FP.kp bP .nil pass0 (pa_cons (pv 0) (pa_cons pe_int pa_nil))) pe_int (nomark _))) (fun _ _ _ _ _ => pv 8))
              (pa_cons (pe_call GP hr1 (by rfl) gP FP.kp bP .nil pass0 (pa_cons (pv 0) (pa_cons pe_int pa_nil))) pa_nil)) (by rfl))
        (pss_cons (ps_if (PW.pt (pw_and (pt_cmpR op_gt (pe_callB call_len_seq (by rfl) ml PySem.boot_len (pa_cons (pv 2) pa_nil)) pe_int (nomark _)) (pw_and1 (pt_cmpR op_eq (pe_call GP hr1 (by rfl) gP FP.kp bP .nil pass0 (pa_cons (pv 0) (pa_cons pe_int pa_nil))) pe_int (nomark _)))))
          (pss_cons (ps_par (i := 6) (j := 7) rfl scEqs.nd rfl rfl (by decide) rfl rfl
              (pa_cons (pe_call GO hr2 (by rfl) gO FO.kp bO .nil pass0 (pa_cons (pv 0) (pa_cons (pv 2) pa_nil))) (pa_cons (pe_call GO hr2 (by rfl) gO FO.kp bO .nil pass0 (pa_cons (pv 0) (pa_cons (pv 2) pa_nil))) pa_nil)) (by rfl))
          (pss_cons (ps_set (i := 4) scEqs.nd rfl (.inl rfl) (pe_call GW hr1 (by rfl) gW FW.kp bW .nil pass0 (pa_cons (pe_lst (pa_cons (pe_ix ix_tup (pv 6) pe_int (fun _ _ => rfl)) (pa_cons (pe_ix ix_tup (pv 7) pe_int (fun _ _ => rfl)) pa_nil))) pa_nil)))
          (pss_one (ps_set (i := 5) scEqs.nd rfl (.inl rfl) (pe_op op_mod (pe_op op_add (pe_op op_add (pe_ix ix_tup (pv 6) pe_int (fun _ _ => rfl)) (pe_ix ix_tup (pv 7) pe_int (fun _ _ => rfl)))
              (pe_callTy call_int1 (by rfl) mi boot_int (pa_cons (pe_cmpR op_eq (pe_call GP hr1 (by rfl) gP FP.kp bP .nil pass0 (pa_cons (pv 0) (pa_cons pe_int pa_nil))) pe_int (nomark _)) pa_nil))) pe_int))))) pss_nil)
        (pss_one (ps_expr (pe_bm PySem.F.plainAttrs_list PySem.F.slot_list_append PySem.F.type_list_append mt_append (pv 2) (pa_cons (pe_tup (pa_cons (pe_call GM hr2 (by rfl) gM FM.kp bM .nil pass0 (pa_cons (pv 0) (pa_cons (pv 4) pa_nil))) (pa_cons (pv 5) pa_nil))) pa_nil))))))) 
      (pss_one (ps_ret (pv 2)))), ?_⟩
    refine ⟨Nat.zero_le _, fun R nR => ?_⟩
    have nRb : R ≠ b := B0.nb nR
    have nRl : R ≠ l := B0.nl nR
    refine ⟨_, rfl, b, l, 13, rfl, B0.new nR, by decide, by decide, fun H1 d k1 B1 d0 d1 => ⟨_, rfl, by omega, by omega, ?_⟩⟩
    refine for_range (lo := 0) (n := d.toNat) (fun k σ H' => ∃ (z3 z4 z5 z6 z7 : Option V) (qs : List Addr) (eqs : List (List Nat × Bool)), σ = [some (.ref b), some (nv m), some (.ref R), z3, z4, z5, z6, z7, none]
        ∧ Bag H' b l ∧ Kp b H H' ∧ H' R = some (.lst (qs.map V.ref)) ∧ EqA H' b R qs eqs ∧ eqs.length = k ∧ ∀ e ∈ eqs, e.1.Nodup ∧ ∀ z ∈ e.1, z < m)
      ⟨_, _, _, _, _, [], [], rfl, B1, (Kp.new nR).trans k1, k1 _ _ nRb upd_same, ⟨rfl, fun i q e hq => by cases hq⟩, rfl, fun e he => absurd he List.not_mem_nil⟩ ?_ ?_
    · rintro k σ H2 hk ⟨z3, z4, z5, z6, z7, qs, eqs, rfl, B2, k2, hR2, at2, len2, in2⟩
      refine ⟨_, rfl, (m : Int), rfl, by omega, by omega, fun D nD => ?_⟩
      have nDb : D ≠ b := B2.nb nD
      have nDR : D ≠ R := fun e => by rw [e, hR2] at nD; cases nD
      refine lc_range (lo := 0) (n := m) (fun i J => Kp b H2 J ∧ Bag J b l ∧ ∃ us : List Nat, J D = some (.lst (us.map nv)) ∧ us.Nodup ∧ us.length ≤ i ∧ ∀ z ∈ us, z < i)
        ⟨Kp.new nD, B2.new nD, [], upd_same, .nil, Nat.le_refl _, fun z hz => absurd hz List.not_mem_nil⟩ ?_ ?_
      · rintro j J hj ⟨kJ, BJ, us, hD, ndu, ul, uz⟩
        refine ⟨rfl, ?_⟩
        refine ⟨_, rfl, b, l, 3, rfl, BJ, by decide, by decide, fun J2 g kJ2 BJ2 g0 g1 => ⟨rfl, _, rfl, ?_⟩⟩
        cases hdec : decide (V.int g = V.int 0) with
        | false => exact iteF ⟨kJ.trans kJ2, BJ2, us, kJ2 _ _ nDb hD, ndu, by omega, fun z hz => Nat.lt_succ_of_lt (uz z hz)⟩
        | true =>
          refine iteT ⟨_, rfl, _, kJ2 _ _ nDb hD, by rw [List.length_map]; exact small1000 (by omega), (kJ.trans kJ2).put nD, BJ2.put nDb (B2.nl nD), us ++ [j], ?_, ?_, ?_, ?_⟩
          · rw [upd_same, List.map_append, Int.zero_add]
            rfl
          · rw [List.nodup_append]
            refine ⟨ndu, List.nodup_cons.mpr ⟨List.not_mem_nil, .nil⟩, fun a ha c hc e => ?_⟩
            rw [List.mem_singleton.mp hc] at e
            have := uz a ha
            omega
          · rw [List.length_append]
            show us.length + 1 ≤ j + 1
            omega
          · intro z hz
            rcases List.mem_append.mp hz with hz | hz
            · exact Nat.lt_succ_of_lt (uz z hz)
            · rw [List.mem_singleton.mp hz]; exact Nat.lt_succ_self _
      rintro H3 ⟨k3, B3, us, hD, ndu, ul, uz⟩
      refine ⟨_, rfl, b, l, 2, rfl, B3, by decide, by decide, fun H4 g k4 B4 g0 g1 => ⟨_, _, rfl, ?_⟩⟩
      obtain ⟨v, ev⟩ := bit_of g0 g1
      rw [ev]
      dsimp only
      refine cut (fun σ H' => ∃ (y6 y7 : Option V) (un : Addr) (us : List Nat) (v : Bool), σ = [some (.ref b), some (nv m), some (.ref R), some (.int (0 + (k : Int))), some (.ref un), some (nv v.toNat), y6, y7, none] ∧ Bag H' b l ∧ Kp b H4 H' ∧ H' un = some (.lst (us.map nv)) ∧ un ≠ b ∧ us.Nodup ∧ us.length ≤ 12 ∧ ∀ z ∈ us, z < m) ?_ ?_
      · rintro σ' H5 ⟨y6, y7, un, us', v', rfl, B5, k5, hun, nub, nd', ul', uz'⟩
        have k25 : Kp b H2 H5 := k3.trans (k4.trans k5)
        have hR5 := k25 _ _ nRb hR2
        refine ⟨_, rfl, .inl ⟨rfl, _, SqL.of hR5⟩, _, rfl, _, rfl, b, l, un, us'.map nv, rfl, B5, nub, SqL.of hun, by rw [List.length_map]; omega, fun H6 o ys k6 B6 no ho pm => ?_⟩
        obtain ⟨ms, rfl, pms⟩ := perm_nums pm
        refine ⟨_, rfl, (by show 2 ≤ sizeLine; decide), fun t nt => ?_⟩
        have hR6 := k6 _ _ nRb hR5
        have nob : o ≠ b := B5.nb no
        have noR : o ≠ R := fun e => by rw [e, hR5] at no; cases no
        have ntb : t ≠ b := B6.nb nt
        have ntR : t ≠ R := fun e => by rw [e, hR6] at nt; cases nt
        have k27 := k25.trans (k6.trans (Kp.new (b := b) (o := .tup [.ref o, nv v'.toNat]) nt))
        refine ⟨R, _, _, rfl, rfl, (same_upd nt) _ _ hR6, by rw [List.length_map, at2.len]; exact small1000 (by omega), _, _, _, _, _, qs ++ [t], eqs ++ [(ms, v')], rfl, (B6.new nt).put nRb nRl, (k2.trans k27).put nR, ?_, ?_, by rw [List.length_append, len2]; rfl, ?_⟩
        · rw [upd_same, List.map_append]
          rfl
        · exact ((at2.kp k27).snoc nob noR ntb ntR upd_same ((same_upd nt) _ _ ho)).put
        · intro e he
          rcases List.mem_append.mp he with he | he
          · exact in2 e he
          · rw [List.mem_singleton.mp he]
            exact ⟨pms.nodup_iff.mpr nd', fun z hz => uz' z (pms.mem_iff.mp hz)⟩
      · intro N hN
        have k24 : Kp b H2 H4 := k3.trans k4
        have hR4 := k24 _ _ nRb hR2
        refine ⟨_, rfl, R, _, rfl, .inl (SqL.of hR4), _, _, rfl, rfl, _, rfl, ?_⟩
        cases hlt : decide ((1 : Int) < (((qs.map V.ref).length : Nat) : Int)) with
        | false => exact iteF (iteF (hN _ _ ⟨_, _, D, us, v, rfl, B4, Kp.refl _ _, k4 _ _ nDb hD, nDb, ndu, by omega, uz⟩))
        | true =>
          refine iteT ?_
          have many := of_decide_eq_true hlt
          have qn : (qs.map V.ref).length = qs.length := List.length_map ..
          have qe := at2.len
          refine ⟨_, rfl, b, l, 2, rfl, B4, by decide, by decide, fun H5 g2 k5 B5 _ _ => ⟨rfl, _, rfl, ?_⟩⟩
          have hR5 := k5 _ _ nRb hR4
          cases hdec : decide (V.int g2 = V.int 0) with
          | false => exact iteF (hN _ _ ⟨_, _, D, us, v, rfl, B5, k5, k5 _ _ nDb (k4 _ _ nDb hD), nDb, ndu, by omega, uz⟩)
          | true =>
            refine iteT ?_
            refine ⟨_, rfl, _, rfl, b, l, .ref R, qs.map V.ref, rfl, B5, .inl ⟨R, rfl, nRb, SqL.of hR5⟩, by omega, by omega, fun H6 x1 k6 B6 hx1 =>
              ⟨_, rfl, _, rfl, b, l, .ref R, qs.map V.ref, rfl, B6, .inl ⟨R, rfl, nRb, SqL.of (k6 _ _ nRb hR5)⟩, by omega, by omega, fun H7 x2 k7 B7 hx2 => ⟨_, _, rfl, ?_⟩⟩⟩
            obtain ⟨q1, hq1, rfl⟩ := List.mem_map.mp hx1
            obtain ⟨q2, hq2, rfl⟩ := List.mem_map.mp hx2
            obtain ⟨i1, hi1⟩ := List.getElem?_of_mem hq1
            obtain ⟨i2, hi2⟩ := List.getElem?_of_mem hq2
            have lt1 : i1 < eqs.length := by rw [← at2.len]; exact (List.getElem?_eq_some_iff.mp hi1).1
            have lt2 : i2 < eqs.length := by rw [← at2.len]; exact (List.getElem?_eq_some_iff.mp hi2).1
            have at7 := at2.kp (k24.trans (k5.trans (k6.trans k7)))
            obtain ⟨u1, _, _, _, _, t1, l1⟩ := at7.at_ i1 q1 eqs[i1] hi1 (List.getElem?_eq_getElem lt1)
            obtain ⟨u2, _, _, _, _, t2, l2⟩ := at7.at_ i2 q2 eqs[i2] hi2 (List.getElem?_eq_getElem lt2)
            have in_1 := in2 eqs[i1] (List.getElem_mem lt1)
            have in_2 := in2 eqs[i2] (List.getElem_mem lt2)
            generalize eqs[i1] = e1 at t1 l1 in_1
            generalize eqs[i2] = e2 at t2 l2 in_2
            have len_1 : e1.1.length ≤ m := by
              have := nodup_le e1.1 (List.range m) in_1.1 fun z hz => List.mem_range.mpr (in_1.2 z hz)
              rwa [List.length_range] at this
            have len_2 : e2.1.length ≤ m := by
              have := nodup_le e2.1 (List.range m) in_2.1 fun z hz => List.mem_range.mpr (in_2.2 z hz)
              rwa [List.length_range] at this
            have toI : ∀ us : List Nat, us.map nv = (us.map fun z : Nat => (z : Int)).map V.int := fun us => by rw [List.map_map]; rfl
            refine ⟨_, rfl, q1, _, 0, _, rfl, rfl, SqT.of t1, rfl, _, rfl, q2, _, 0, _, rfl, rfl, SqT.of t2, rfl, (by show 2 ≤ sizeLine; decide), fun t nt =>
              ⟨t, [u1, u2], [e1.1.map fun z : Nat => (z : Int), e2.1.map fun z : Nat => (z : Int)], rfl, SqL.of upd_same, ⟨rfl, fun i p r hp hr => ?_⟩, ?_, fun H8 o ys s8 no ho srt mem => ?_⟩⟩
            · match i, hp, hr with
              | 0, hp, hr => cases hp; cases hr; rw [← toI]; exact SqL.of ((same_upd nt) _ _ l1)
              | 1, hp, hr => cases hp; cases hr; rw [← toI]; exact SqL.of ((same_upd nt) _ _ l2)
            · simp only [List.flatten_cons, List.flatten_nil, List.append_nil, List.length_append, List.length_map]
              omega
            have s78 := (same_upd (o := .lst [V.ref u1, V.ref u2]) nt).trans s8
            have B8 := B7.same s78
            have inY : ∀ z ∈ ys, ∃ n : Nat, z = (n : Int) ∧ n < m := fun z hz => by
              have odd := (mem z).mp hz
              have there := List.count_pos_iff.mp (show 0 < List.count z [e1.1.map (fun z : Nat => (z : Int)), e2.1.map (fun z : Nat => (z : Int))].flatten by omega)
              simp only [List.flatten_cons, List.flatten_nil, List.append_nil, List.mem_append] at there
              rcases there with q | q
              · obtain ⟨n, hn, rfl⟩ := List.mem_map.mp q
                exact ⟨n, rfl, in_1.2 n hn⟩
              · obtain ⟨n, hn, rfl⟩ := List.mem_map.mp q
                exact ⟨n, rfl, in_2.2 n hn⟩
            obtain ⟨us3, rfl, nd3, lt3, len3⟩ := nats_below srt inY
            rw [← toI] at ho
            have nob : o ≠ b := (B7.new nt).nb no
            refine ⟨_, rfl, q1, _, 1, _, rfl, rfl, SqT.of (s78 _ _ t1), rfl, _, rfl, q2, _, 1, _, rfl, rfl, SqT.of (s78 _ _ t2), rfl, _, _, rfl, rfl, _, rfl, b, l, 5, rfl, B8, by decide, by decide, fun H9 g3 k9 B9 _ _ =>
              ⟨rfl, .inr ⟨_, rfl, _, _, rfl, rfl, _, _, rfl, rfl, (by dsimp only; decide), ?_⟩⟩⟩
            obtain ⟨v3, ev3⟩ := bit_of (d := (((e1.2.toNat : Nat) : Int) + ((e2.2.toNat : Nat) : Int) + (if decide (V.int g3 = V.int 0) = true then 1 else 0)) % 2) (Int.emod_nonneg _ (by decide)) (Int.emod_lt_of_pos _ (by decide))
            refine hN _ _ ⟨some (.ref q1), some (.ref q2), o, us3, v3, ?_, B9, ?_, k9 _ _ nob ho, nob, nd3, by omega, lt3⟩
            · rw [← ev3]
              rfl
            · exact k5.trans (k6.trans (k7.trans ((Kp.of_same s78).trans k9)))
    · rintro σ H2 ⟨z3, z4, z5, z6, z7, qs, eqs, rfl, B2, k2, hR2, at2, len2, in2⟩
      exact ⟨_, rfl, q H2 R qs eqs k2 B2 nR hR2 at2.eqs (by omega) in2⟩
end


end T40

/-! all sets of unknowns, and what a sum of equations holds -/
namespace Tm
open Tm.Gauss
def linesL : Nat → List (List Nat)
  | 0 => [[]]
  | i + 1 => linesL i ++ (linesL i).map fun l => l ++ [i]
/-- the line's unknowns are the ones of S -/
def Ones (S : Nat) (ln : List Nat) : Prop := ∀ z, z ∈ ln ↔ S.testBit z = true
theorem ones_more {S i : Nat} {ln : List Nat} (h : Ones S ln) (lt : S < 2 ^ i) : Ones (S ^^^ 2 ^ i) (ln ++ [i]) := fun z => by
  rw [List.mem_append, List.mem_singleton, h z, Nat.testBit_xor, Nat.testBit_two_pow]
  by_cases e : i = z
  · subst e
    rw [Nat.testBit_lt_two_pow lt]
    simp
  · have e2 : ¬ z = i := fun q => e q.symm
    simp [e, e2]
theorem line_ones : ∀ (i : Nat) (ln : List Nat), ln ∈ linesL i → ∃ S, S < 2 ^ i ∧ Ones S ln
  | 0, ln, h => by
    rw [List.mem_singleton.mp h]
    exact ⟨0, by decide, fun z => by simp⟩
  | i + 1, ln, h => by
    rcases List.mem_append.mp h with h | h
    · obtain ⟨S, lt, o⟩ := line_ones i ln h
      exact ⟨S, Nat.lt_of_lt_of_le lt (Nat.pow_le_pow_right (by decide) (Nat.le_succ i)), o⟩
    · obtain ⟨l0, h0, rfl⟩ := List.mem_map.mp h
      obtain ⟨S, lt, o⟩ := line_ones i l0 h0
      refine ⟨S ^^^ 2 ^ i, Nat.xor_lt_two_pow (Nat.lt_of_lt_of_le lt (Nat.pow_le_pow_right (by decide) (Nat.le_succ i))) (Nat.pow_lt_pow_right (by decide) (Nat.lt_succ_self i)), ones_more o lt⟩
theorem ones_line : ∀ (i S : Nat), S < 2 ^ i → ∃ ln, ln ∈ linesL i ∧ Ones S ln
  | 0, S, h => by
    have e : S = 0 := by simpa using h
    subst e
    exact ⟨[], List.mem_singleton.mpr rfl, fun z => by simp⟩
  | i + 1, S, h => by
    cases t : S.testBit i with
    | false =>
      have lt : S < 2 ^ i := by
        refine Nat.lt_pow_two_of_testBit _ fun j hj => ?_
        by_cases e : j = i
        · rw [e]; exact t
        · exact Nat.testBit_lt_two_pow (Nat.lt_of_lt_of_le h (Nat.pow_le_pow_right (by decide) (by omega)))
      obtain ⟨ln, hl, o⟩ := ones_line i S lt
      exact ⟨ln, List.mem_append.mpr (.inl hl), o⟩
    | true =>
      have lt : S ^^^ 2 ^ i < 2 ^ i := by
        refine Nat.lt_pow_two_of_testBit _ fun j hj => ?_
        rw [Nat.testBit_xor, Nat.testBit_two_pow]
        by_cases e : i = j
        · rw [← e, t]; simp
        · have z : S.testBit j = false := Nat.testBit_lt_two_pow (Nat.lt_of_lt_of_le h (Nat.pow_le_pow_right (by decide) (by omega)))
          rw [z]; simp [e]
      obtain ⟨ln, hl, o⟩ := ones_line i _ lt
      refine ⟨ln ++ [i], List.mem_append.mpr (.inr (List.mem_map.mpr ⟨ln, hl, rfl⟩)), ?_⟩
      have m := ones_more o lt
      have e : S ^^^ 2 ^ i ^^^ 2 ^ i = S := by rw [Nat.xor_assoc, Nat.xor_self, Nat.xor_zero]
      rw [e] at m
      exact m
theorem lines_len : ∀ i : Nat, (linesL i).length = 2 ^ i
  | 0 => rfl
  | i + 1 => by
    show (linesL i ++ (linesL i).map _).length = _
    rw [List.length_append, List.length_map, lines_len i, Nat.pow_succ]
    omega
theorem line_short : ∀ (i : Nat) (ln : List Nat), ln ∈ linesL i → ln.length ≤ i
  | 0, ln, h => by rw [List.mem_singleton.mp h]; exact Nat.le_refl _
  | i + 1, ln, h => by
    rcases List.mem_append.mp h with h | h
    · exact Nat.le_succ_of_le (line_short i ln h)
    · obtain ⟨l0, h0, rfl⟩ := List.mem_map.mp h
      rw [List.length_append]
      exact Nat.succ_le_succ (line_short i l0 h0)
/-! ### one row asked -/
theorem par_one {N z : Nat} (S : Nat) (h : z < N) : par N (2 ^ z &&& S) = S.testBit z := by
  cases t : S.testBit z with
  | true =>
    rw [Nat.and_comm, and_pow_top t, par_pow h]
  | false =>
    have e : 2 ^ z &&& S = 0 := by
      apply Nat.eq_of_testBit_eq
      intro i
      rw [Nat.testBit_and, Nat.testBit_two_pow, Nat.zero_testBit]
      by_cases q : z = i
      · subst q; rw [t]; simp
      · simp [q]
    rw [e, par_zero]
theorem num_snoc (us : List Nat) (z : Nat) : numL (us ++ [z]) = numL us ^^^ 2 ^ z := by
  unfold numL
  rw [List.foldl_append]
  rfl
theorem row_par {N S : Nat} (us : List Nat) (h : ∀ z ∈ us, z < N) : (us.filter fun z => S.testBit z).length % 2 = (par N (numL us &&& S)).toNat := by
  suffices g : ∀ ws : List Nat, (∀ z ∈ ws, z < N) → (ws.reverse.filter fun z => S.testBit z).length % 2 = (par N (numL ws.reverse &&& S)).toNat by
    have := g us.reverse fun z hz => h z (List.mem_reverse.mp hz)
    rwa [List.reverse_reverse] at this
  intro ws
  induction ws with
  | nil =>
    intro _
    show 0 = (par N (0 &&& S)).toNat
    rw [Nat.zero_and, par_zero]
    rfl
  | cons w ws ih =>
    intro hz
    have e := ih fun z q => hz z (List.mem_cons_of_mem _ q)
    rw [List.reverse_cons, List.filter_append, List.length_append, num_snoc, and_xor, par_xor, par_one S (hz w List.mem_cons_self)]
    have e1 : ([w].filter fun z => S.testBit z).length = (S.testBit w).toNat := by cases t : S.testBit w <;> simp [t]
    rw [e1]
    generalize (ws.reverse.filter fun z => S.testBit z).length = n at e ⊢
    generalize par N (numL ws.reverse &&& S) = p at e ⊢
    generalize S.testBit w = t
    cases p <;> cases t <;> simp only [Bool.toNat_true, Bool.toNat_false, Bool.xor_false, Bool.false_xor, Bool.xor_true, Bool.not_true, Bool.not_false] at e ⊢ <;> omega
/-! ### what a sum of equations holds -/
/-- how often z stands among the unknowns of the places of c -/
def timesIn (us : Nat → List Nat) (z : Nat) : List Nat → Nat
  | [] => 0
  | i :: r => (us i).count z + timesIn us z r
theorem times_app (us : Nat → List Nat) (z : Nat) : ∀ a b : List Nat, timesIn us z (a ++ b) = timesIn us z a + timesIn us z b
  | [], b => by simp [timesIn]
  | i :: a, b => by
    show (us i).count z + timesIn us z (a ++ b) = (us i).count z + timesIn us z a + timesIn us z b
    rw [times_app us z a b]
    omega
theorem num_bit (us : List Nat) (z : Nat) : ((numL us).testBit z).toNat = us.count z % 2 := by
  suffices g : ∀ ws : List Nat, ((numL ws.reverse).testBit z).toNat = ws.reverse.count z % 2 by
    have := g us.reverse
    rwa [List.reverse_reverse] at this
  intro ws
  induction ws with
  | nil => simp [numL]
  | cons w ws ih =>
    rw [List.reverse_cons, num_snoc, Nat.testBit_xor, Nat.testBit_two_pow, List.count_append]
    generalize List.count z ws.reverse = n at ih ⊢
    by_cases e : w = z
    · subst e
      rw [List.count_singleton_self]
      generalize (numL ws.reverse).testBit w = p at ih ⊢
      cases p <;> simp at ih ⊢ <;> omega
    · rw [show List.count z [w] = 0 from by simp [e]]
      generalize (numL ws.reverse).testBit z = p at ih ⊢
      cases p <;> simp [e] at ih ⊢ <;> omega
theorem comb_bit {g : Nat → Eqn} {us : Nat → List Nat} (hg : ∀ i, (g i).u = numL (us i)) (z c : Nat) : ∀ n : Nat, ((comb g n c).u.testBit z).toNat = timesIn us z (bitsL n c) % 2
  | 0 => by
    show (Nat.testBit 0 z).toNat = 0
    simp
  | n + 1 => by
    have ih := comb_bit hg z c n
    rw [bits_succ, times_app]
    unfold comb
    cases t : c.testBit n with
    | false =>
      show ((comb g n c).u.testBit z).toNat = _
      simp [timesIn]
      exact ih
    | true =>
      show (((comb g n c).u ^^^ (g n).u).testBit z).toNat = _
      rw [Nat.testBit_xor, hg n]
      have nb := num_bit (us n) z
      have e : timesIn us z (if true = true then [n] else []) = (us n).count z := by simp [timesIn]
      rw [e]
      generalize (us n).count z = a at nb ⊢
      generalize timesIn us z (bitsL n c) = b at ih ⊢
      generalize (comb g n c).u.testBit z = p at ih ⊢
      generalize (numL (us n)).testBit z = r at nb ⊢
      cases p <;> cases r <;> simp at ih nb ⊢ <;> omega
end Tm

/-! the answers of solve, judged -/
namespace Tm
open PySem PySem.Spec PyProof.Rows L2 Tm.Gauss
theorem rise_one : ∀ l m : List Int, l.Pairwise (· < ·) → m.Pairwise (· < ·) → (∀ z, z ∈ l ↔ z ∈ m) → l = m
  | [], [], _, _, _ => rfl
  | [], b :: m, _, _, h => absurd ((h b).mpr List.mem_cons_self) List.not_mem_nil
  | a :: l, [], _, _, h => absurd ((h a).mp List.mem_cons_self) List.not_mem_nil
  | a :: l, b :: m, hl, hm, h => by
    have pl := List.pairwise_cons.mp hl
    have pm := List.pairwise_cons.mp hm
    have e : a = b := by
      rcases List.mem_cons.mp ((h a).mp List.mem_cons_self) with q | q
      · exact q
      · rcases List.mem_cons.mp ((h b).mpr List.mem_cons_self) with r | r
        · exact r.symm
        · have x1 := pm.1 a q
          have x2 := pl.1 b r
          omega
    subst e
    have r := rise_one l m pl.2 pm.2 fun z => by
      constructor
      · intro hz
        rcases List.mem_cons.mp ((h z).mp (List.mem_cons_of_mem _ hz)) with q | q
        · have := pl.1 z hz; omega
        · exact q
      · intro hz
        rcases List.mem_cons.mp ((h z).mpr (List.mem_cons_of_mem _ hz)) with q | q
        · have := pm.1 z hz; omega
        · exact q
    rw [r]
def ints' (us : List Nat) : List Int := us.map fun z : Nat => (z : Int)
theorem nums_ints (us : List Nat) : us.map nv = (ints' us).map V.int := by
  unfold ints'
  rw [List.map_map]; rfl
theorem bits_rise (n m : Nat) : (bitsL n m).Pairwise (· < ·) := by
  unfold bitsL
  exact List.Pairwise.filter _ List.pairwise_lt_range
theorem ints_rise {us : List Nat} (h : us.Pairwise (· < ·)) : (ints' us).Pairwise (· < ·) := by
  unfold ints'
  rw [List.pairwise_map]
  exact h.imp fun {a b} q => by omega
theorem count_ints (us : List Nat) (n : Nat) : (ints' us).count (n : Int) = us.count n := by
  unfold ints'
  induction us with
  | nil => rfl
  | cons u r ih =>
    rw [List.map_cons, List.count_cons, List.count_cons, ih]
    by_cases e : u = n
    · subst e; simp
    · have e2 : ¬ (u : Int) = (n : Int) := by omega
      simp [e, e2]
def usOf (eqs : List (List Nat × Bool)) (i : Nat) : List Nat := match eqs[i]? with
  | some e => e.1
  | none => []
def vOf (eqs : List (List Nat × Bool)) (i : Nat) : Bool := match eqs[i]? with
  | some e => e.2
  | none => false
theorem gOf_u (eqs : List (List Nat × Bool)) (i : Nat) : (gOf eqs i).u = numL (usOf eqs i) := by
  unfold gOf usOf
  cases eqs[i]? <;> rfl
theorem gOf_v (eqs : List (List Nat × Bool)) (i : Nat) : (gOf eqs i).v = vOf eqs i := by
  unfold gOf vOf
  cases eqs[i]? <;> rfl
def rowsOf (eqs : List (List Nat × Bool)) (fs : List Nat) : List (List Int) := fs.map fun i => ints' (usOf eqs i)
theorem count_rows (eqs : List (List Nat × Bool)) (n : Nat) : ∀ fs : List Nat, (rowsOf eqs fs).flatten.count (n : Int) = timesIn (usOf eqs) n fs
  | [] => rfl
  | i :: r => by
    show (ints' (usOf eqs i) ++ (rowsOf eqs r).flatten).count (n : Int) = (usOf eqs i).count n + timesIn (usOf eqs) n r
    rw [List.count_append, count_ints, count_rows eqs n r]
theorem even_rows {eqs : List (List Nat × Bool)} {c : Nat} (lt : c < 2 ^ eqs.length) (h : (comb (gOf eqs) eqs.length c).u = 0) (z : Int) : (rowsOf eqs (bitsL (bl c) c)).flatten.count z % 2 = 0 := by
  by_cases hz : z ∈ (rowsOf eqs (bitsL (bl c) c)).flatten
  · obtain ⟨l, hl, hzl⟩ := List.mem_flatten.mp hz
    obtain ⟨i, _, rfl⟩ := List.mem_map.mp hl
    obtain ⟨n, _, rfl⟩ := List.mem_map.mp hzl
    rw [count_rows]
    have e := comb_bit (gOf_u eqs) n c eqs.length
    rw [h, Nat.zero_testBit, bits_short (lt_bl c) (bl_le lt)] at e
    exact e.symm
  · rw [List.count_eq_zero_of_not_mem hz]
def valsOf (eqs : List (List Nat × Bool)) (fs : List Nat) : List Int := fs.map fun i => (((vOf eqs i).toNat : Nat) : Int)
theorem vals_app (eqs : List (List Nat × Bool)) (a b : List Nat) : valsOf eqs (a ++ b) = valsOf eqs a ++ valsOf eqs b := by
  unfold valsOf; rw [List.map_append]
theorem comb_vals (eqs : List (List Nat × Bool)) (c : Nat) : ∀ n : Nat, (valsOf eqs (bitsL n c)).sum % 2 = (((comb (gOf eqs) n c).v.toNat : Nat) : Int)
  | 0 => rfl
  | n + 1 => by
    have ih := comb_vals eqs c n
    rw [bits_succ, vals_app, List.sum_append]
    unfold comb
    cases t : c.testBit n with
    | false =>
      show ((valsOf eqs (bitsL n c)).sum + (valsOf eqs []).sum) % 2 = (((comb (gOf eqs) n c).v.toNat : Nat) : Int)
      rw [← ih]
      show ((valsOf eqs (bitsL n c)).sum + 0) % 2 = _
      rw [Int.add_zero]
    | true =>
      show ((valsOf eqs (bitsL n c)).sum + (valsOf eqs [n]).sum) % 2 = (((((comb (gOf eqs) n c).v ^^ (gOf eqs n).v)).toNat : Nat) : Int)
      rw [gOf_v]
      have e : (valsOf eqs [n]).sum = (((vOf eqs n).toNat : Nat) : Int) := by simp [valsOf]
      rw [e]
      generalize (valsOf eqs (bitsL n c)).sum = a at ih ⊢
      generalize (comb (gOf eqs) n c).v = p at ih ⊢
      generalize vOf eqs n = r
      cases p <;> cases r <;> simp at ih ⊢ <;> omega
theorem odd_vals {eqs : List (List Nat × Bool)} {c : Nat} (lt : c < 2 ^ eqs.length) (h : (comb (gOf eqs) eqs.length c).v = true) : (valsOf eqs (bitsL (bl c) c)).sum % 2 = 1 := by
  have e := comb_vals eqs c eqs.length
  rw [h, bits_short (lt_bl c) (bl_le lt)] at e
  exact e
theorem flat_le (eqs : List (List Nat × Bool)) (m : Nat) (h : ∀ e ∈ eqs, e.1.length ≤ m) : ∀ fs : List Nat, (rowsOf eqs fs).flatten.length ≤ fs.length * m
  | [] => Nat.zero_le _
  | i :: r => by
    show (ints' (usOf eqs i) ++ (rowsOf eqs r).flatten).length ≤ (r.length + 1) * m
    rw [List.length_append, Nat.succ_mul]
    have e1 : (ints' (usOf eqs i)).length ≤ m := by
      unfold ints' usOf
      rw [List.length_map]
      cases q : eqs[i]? with
      | none => exact Nat.zero_le _
      | some e => exact h e (List.mem_of_getElem? q)
    have := flat_le eqs m h r
    omega
theorem bits_few (n m : Nat) : (bitsL n m).length ≤ n := by
  unfold bitsL
  exact Nat.le_trans (List.length_filter_le _ _) (by rw [List.length_range]; exact Nat.le_refl _)
/-- the answer in memory, and that it is right -/
def Right (H : Hp) (t : Addr) (m : Nat) (eqs : List (List Nat × Bool)) : Prop :=
  (∃ b S, H t = some (.tup [.str sSol, .ref b]) ∧ H b = some (.lst ((bitsL (bl S) S).map nv)) ∧ S < 2 ^ m ∧ ∀ i, i < eqs.length → sat m S (gOf eqs i))
  ∨ (∃ b c, H t = some (.tup [.str sCon, .ref b]) ∧ H b = some (.lst ((bitsL (bl c) c).map nv)) ∧ c < 2 ^ eqs.length ∧ (comb (gOf eqs) eqs.length c).u = 0 ∧ (comb (gOf eqs) eqs.length c).v = true)
def spSolves (K : PySem.W.Frag) : Sp := fun vs H Q _ => ∃ (p : Addr) (m : Nat) (t : Addr) (qs : List Addr) (eqs : List (List Nat × Bool)), vs = [.ref p, nv m, .ref t] ∧ SqL K H p (qs.map V.ref) ∧ EqsAt H qs eqs ∧ m ≤ 6 ∧ eqs.length ≤ 8 ∧ (∀ e ∈ eqs, e.1.length ≤ 6 ∧ ∀ z ∈ e.1, z < m) ∧ Right H t m eqs ∧
  ∀ H', Same H H' → Q (.bl true) H'
end Tm

namespace T40
open PySem PySem.Spec PyProof.Rows L2 Tm
abbrev sSv : Stmt := topS 14
theorem scSv : FnScope ["_law_rows", "_law_mcount", "_law_answer", "_law_word", "_law_found", "_law_one", "_law_unknowns", "_law_value", "_law_at"] ["_law_rows", "_law_mcount", "_law_answer"] (defScope sSv) := ⟨rfl, rfl, rfl, by decide +kernel, rfl, by decide +kernel, by decide +kernel⟩
open Gauss
def rLenK (K : PySem.W.Frag) : List V → Hp → VK → Prop := fun xs H Q => ∃ p ys, xs = [.ref p] ∧ (SqL K H p ys ∨ SqT K H p ys) ∧ Q (.int ys.length) H
theorem cr_lenK {X : Cx} : CallR X (.builtin "len") (rLenK X.K) := call_len_seq
open Gauss
theorem in_nums (z : Nat) (ln : List Nat) : inV (nv z) (ln.map nv) = decide (z ∈ ln) := by
  unfold inV
  rw [List.any_map]
  induction ln with
  | nil => rfl
  | cons y r ih =>
    rw [List.any_cons, ih]
    have e : ((fun v => eqV v (nv z)) ∘ nv) y = decide (y = z) := by
      show eqV (nv y) (nv z) = _
      by_cases h : y = z
      · subst h; simp [eqV, nv]
      · have h2 : ¬ (y : Int) = (z : Int) := by omega
        simp [eqV, nv, h, h2]
    rw [e]
    by_cases h : y = z
    · subst h; simp
    · have h3 : ¬ z = y := fun q => h q.symm
      simp [h, h3]
def asks (ln : List Nat) (e : List Nat × Bool) : Bool := decide ((e.1.filter fun z => decide (z ∈ ln)).length % 2 = e.2.toNat)
theorem asks_sat {S m : Nat} {ln : List Nat} {e : List Nat × Bool} (o : Ones S ln) (h : ∀ z ∈ e.1, z < m) : asks ln e = true ↔ sat m S (eqnOf e) := by
  unfold asks sat eqnOf
  have f : (fun z => decide (z ∈ ln)) = fun z => S.testBit z := by
    funext z
    have := o z
    cases t : S.testBit z <;> rw [t] at this <;> simp at this <;> simp [this]
  rw [f, row_par e.1 h, decide_eq_true_iff]
  dsimp only
  cases par m (numL e.1 &&& S) <;> cases e.2 <;> simp
theorem flat_nums (ln : List Nat) : (ln.map nv).all flatV = true := by
  rw [List.all_map, List.all_eq_true]
  intro z _
  rfl

def spSolvesE (K : PySem.W.Frag) : Sp := fun vs H Q _ => ∃ (p : Addr) (m : Nat) (t : Addr) (qs : List Addr) (eqs : List (List Nat × Bool)) (k0 : Nat) (a : Nat ⊕ Nat), vs = [.ref p, nv m, .ref t] ∧ SqL K H p (qs.map V.ref) ∧ EqsAt H qs eqs ∧ m ≤ 400 ∧ eqs.length ≤ 400 ∧ eqs.length * k0 ≤ 1000 ∧ (∀ e ∈ eqs, e.1.length ≤ k0) ∧ (∀ e ∈ eqs, ∀ z ∈ e.1, z < m) ∧ AnsAt H t a ∧ RightA m eqs a ∧
  ∀ H', Same H H' → Q (.bl true) H'
section
variable {P : Program} {w : World} {K : PySem.W.Frag} {mg : Str → Option Value} {base : Heap}
theorem ok_solvesE {f fW : Addr} {fd fdW : FuncData} (F : Fun K "_law_solves" "_law_solves" sSv f fd)
    (FW : Fun K "_law_sum" "_law_sum" sLSum fW fdW) (bW : Binds K fdW ["_law_rows"] []) (gW : mg "_law_sum" = some (.ref fW))
    (mi : mg "isinstance" = none) (mli : mg "list" = none) (ms : mg "sorted" = none) (mset : mg "set" = none) (ma : mg "all" = none) (ml : mg "len" = none) (msum : mg "sum" = none) :
    FnOk P w K mg base CX0 2 f fd ["_law_rows", "_law_mcount", "_law_answer"] (spSolvesE K) := by
  have GW : FnOk P w K mg base CX0 1 fW fdW ["_law_rows"] (spLSumIE K) := ok_lsumIE FW ms mset mli
  refine F.ok scSv (fun vs H Q E h => ?_) (fun cdv A outer s H vs Q E hr h => ?_)
  · obtain ⟨p, m, t, qs, eqs, k0, a, rfl, _⟩ := h
    rfl
  · obtain ⟨p, m, t, qs, eqs, k0, a, rfl, hp, at0, hm, few, many, short, inE, ans, right, q⟩ := h
    have hr1 : Room 1 _ := hr
    refine ⟨_, pss_cons (ps_asg (pv 2) (pg_tup rfl (pgs_cons (pg_name (i := 3) scSv.nd rfl (.inl rfl)) (pgs_cons (pg_name (i := 4) scSv.nd rfl (.inr rfl)) pgs_nil))))
      (pss_cons (ps_if (PW.pt (pw_or (pt_not (pt_val (pe_callB call_isi (by rfl) mi boot_isinstance (pa_cons (pv 4) (pa_cons (pe_bltn (v := .ty "list") (by rfl) mli (by decide +kernel) rfl) pa_nil)))))
          (pw_or1 (pt_cmpR (op_neD hr.units) (pe_callB (call_sortIS rfl) (by rfl) ms boot_sorted (pa_cons (pe_callTy (call_setInts rfl) (by rfl) mset boot_set (pa_cons (pv 4) pa_nil)) pa_nil)) (pv 4) (nomark _))))) pss_never pss_nil)
      (pss_cons (ps_if (pt_cmpR op_eq (pv 3) pe_str (nomark _))
          (pss_cons (ps_if (pt_not (pt_val (pe_callB (cr_all rfl) (by rfl) ma boot_all (pa_cons (pe_lc (own := [("_law_one", 5)]) (g := gName 5) (tt := tYes) rfl scSv.nd (pi_list (pv 4)) (blkOk_by (own := [("_law_one", 5)]) (N := ["_law_rows", "_law_mcount", "_law_answer", "_law_word", "_law_found", "_law_one", "_law_unknowns", "_law_value", "_law_at"]) (sc := defScope sSv) (by decide +kernel))
            (fun _ _ _ _ _ => pg_name (i := 5) scSv.nd rfl (Or.inl rfl)) (fun _ _ _ _ _ => pts_nil) (fun _ _ _ _ _ => pe_chain op_le op_lt pe_int (pv 5) (pv 1))) pa_nil)))) pss_never pss_nil)
          (pss_one (ps_ret (pe_callB (cr_all rfl) (by rfl) ma boot_all (pa_cons (pe_lc (own := [("_law_unknowns", 6), ("_law_value", 7)]) (g := gTup K 2 (gCons (gName 6) (gCons (gName 7) gNil))) (tt := tYes) rfl scSv.nd (pi_list (pv 0))
            (blkOk_by (own := [("_law_unknowns", 6), ("_law_value", 7)]) (N := ["_law_rows", "_law_mcount", "_law_answer", "_law_word", "_law_found", "_law_one", "_law_unknowns", "_law_value", "_law_at"]) (sc := defScope sSv) (by decide +kernel))
            (fun _ _ _ _ _ => pg_tup rfl (pgs_cons (pg_name (i := 6) scSv.nd rfl (Or.inl rfl)) (pgs_cons (pg_name (i := 7) scSv.nd rfl (Or.inl rfl)) pgs_nil))) (fun _ _ _ _ _ => pts_nil)
            (fun _ _ _ _ _ => pe_cmpR op_eq (pe_op op_mod (pe_callB (show CallR _ _ (rLenK K) from cr_lenK) (by rfl) ml PySem.boot_len (pa_cons (pe_lc (own := [("_law_one", 5)]) (g := gName 5) rfl scSv.nd (show PI _ _ _ (iList K (tVar 6)) from pi_list (pv 6)) (show BlkOk ["_law_rows", "_law_mcount", "_law_answer", "_law_word", "_law_found", "_law_one", "_law_unknowns", "_law_value", "_law_at"] (relS _ (defScope sSv)) _ _ from blkOk_by (by decide +kernel))
            (fun _ _ _ _ _ => pg_name (i := 5) scSv.nd rfl (Or.inl rfl)) (fun _ _ _ _ _ => pts_one (pt_cmpR (show OpR _ _ (rIn K false) from op_in_seq) (pv 5) (pv 4) (by rfl))) (fun _ _ _ _ _ => pv 5)) pa_nil)) pe_int) (pv 7) (nomark _))) pa_nil))))) pss_nil)
      (pss_cons (ps_if (PW.pt (pw_or (pt_cmpR op_ne (pv 3) pe_str (nomark _)) (pw_or1 (pt_not (pt_val (pe_callB (cr_all rfl) (by rfl) ma boot_all (pa_cons (pe_lc (own := [("_law_at", 8)]) (g := gName 8) (tt := tYes) rfl scSv.nd (pi_list (pv 4)) (blkOk_by (own := [("_law_at", 8)]) (N := ["_law_rows", "_law_mcount", "_law_answer", "_law_word", "_law_found", "_law_one", "_law_unknowns", "_law_value", "_law_at"]) (sc := defScope sSv) (by decide +kernel))
            (fun _ _ _ _ _ => pg_name (i := 8) scSv.nd rfl (Or.inl rfl)) (fun _ _ _ _ _ => pts_nil) (fun _ _ _ _ _ => pe_chain op_le op_lt pe_int (pv 8) (pe_callB (show CallR _ _ (rLenK K) from cr_lenK) (by rfl) ml PySem.boot_len (pa_cons (pv 0) pa_nil)))) pa_nil))))))) pss_never pss_nil)
      (pss_one (ps_ret (pe_and (pe_cmpR (op_eqD hr.units) (pe_call GW hr1 (by rfl) gW FW.kp bW .nil pass0 (pa_cons (pe_lc (own := [("_law_at", 8)]) (g := gName 8) (tt := tYes) rfl scSv.nd (pi_list (pv 4)) (blkOk_by (own := [("_law_at", 8)]) (N := ["_law_rows", "_law_mcount", "_law_answer", "_law_word", "_law_found", "_law_one", "_law_unknowns", "_law_value", "_law_at"]) (sc := defScope sSv) (by decide +kernel))
            (fun _ _ _ _ _ => pg_name (i := 8) scSv.nd rfl (Or.inl rfl)) (fun _ _ _ _ _ => pts_nil) (fun _ _ _ _ _ => (pe_ix (show IxR _ (rIxT K) from ix_tup) (pe_ix (show IxR _ (rIxL K) from ix_list) (pv 0) (pv 8) (fun _ _ => rfl)) pe_int (fun _ _ => rfl)))) pa_nil)) (pe_lst pa_nil) (nomark _))
          (pe_one (pe_cmpR op_eq (pe_op op_mod (pe_callB (cr_sum rfl) (by rfl) msum (by decide +kernel) (pa_cons (pe_lc (own := [("_law_at", 8)]) (g := gName 8) (tt := tYes) rfl scSv.nd (pi_list (pv 4)) (blkOk_by (own := [("_law_at", 8)]) (N := ["_law_rows", "_law_mcount", "_law_answer", "_law_word", "_law_found", "_law_one", "_law_unknowns", "_law_value", "_law_at"]) (sc := defScope sSv) (by decide +kernel))
            (fun _ _ _ _ _ => pg_name (i := 8) scSv.nd rfl (Or.inl rfl)) (fun _ _ _ _ _ => pts_nil) (fun _ _ _ _ _ => (pe_ix (show IxR _ (rIxT K) from ix_tup) (pe_ix (show IxR _ (rIxL K) from ix_list) (pv 0) (pv 8) (fun _ _ => rfl)) pe_int (fun _ _ => rfl)))) pa_nil)) pe_int) pe_int (nomark _))))))))), ?_⟩
    have shortE : ∀ e ∈ eqs, e.1.length ≤ 1000 := fun e he => by
      have h1 := short e he
      have h2 : 0 < eqs.length := List.length_pos_of_mem he
      have h3 : 1 * k0 ≤ eqs.length * k0 := Nat.mul_le_mul_right _ h2
      omega
    have lenq : (qs.map V.ref).length = eqs.length := by rw [List.length_map, at0.len]
    have right2 : Right H t m eqs := by
      cases a with
      | inl S =>
        obtain ⟨b, ht, hb⟩ := ans
        obtain ⟨lt, sats⟩ := right
        exact .inl ⟨b, S, ht, hb, lt, sats⟩
      | inr c =>
        obtain ⟨b, ht, hb⟩ := ans
        obtain ⟨lt, z0, v1⟩ := right
        exact .inr ⟨b, c, ht, hb, lt, z0, v1⟩
    clear ans right
    rcases right2 with ⟨b, S, ht, hb, lt, sats⟩ | ⟨b, c, ht, hb, lt, z0, v1⟩
    · have fl : (bitsL (bl S) S).length ≤ 400 := by
        have := bits_few (bl S) S
        have := bl_le lt
        omega
      have hbi := hb
      rw [nums_ints] at hbi
      have il : (ints' (bitsL (bl S) S)).length ≤ 400 := by unfold ints'; rw [List.length_map]; exact fl
      refine ⟨_, rfl, t, _, rfl, SqT.of ht, rfl, _, _, rfl, _, _, rfl, rfl, ?_⟩
      refine ⟨_, rfl, _, _, _, _, true, rfl, .ty "list", .base (.lst hb), kit_ty (by decide +kernel), _, rfl, ifF rfl ?_⟩
      refine ⟨_, rfl, b, ints' (bitsL (bl S) S), rfl, SqL.of hbi, by omega, fun a nn na hnn => ⟨a, _, _, rfl, upd_same, by omega, fun up c srt mem len nc => ?_⟩⟩
      have sA : Same H (upd (upd H a (SetO w a (fun j => decide (j ∈ ints' (bitsL (bl S) S))) nn)) c (.lst (up.map V.int))) := (same_upd na).trans (same_upd nc)
      have e : up = ints' (bitsL (bl S) S) := rise_one _ _ srt (ints_rise (bits_rise _ _)) fun z => (mem z).trans decide_eq_true_iff
      subst e
      refine ⟨_, rfl, .list ((ints' (bitsL (bl S) S)).map PyData.int), .list ((ints' (bitsL (bl S) S)).map PyData.int), .lst (SqL.of upd_same) (dp_ints _), .lst (SqL.of (sA _ _ hbi)) (dp_ints _), shaped_ints' _, shaped_ints' _, _, rfl, ?_⟩
      rw [SeqAt.eqv_refl _ (SeqAt.canLay_of_shaped (shaped_ints' _))]
      refine ifF rfl ?_
      refine ⟨_, rfl, rfl, _, rfl, iteT ?_⟩
      have hb1 := sA _ _ hb
      refine ⟨_, rfl, b, rfl, ⟨_, SqL.of hb1⟩, fun C nC => ?_⟩
      refine lc_list (K := K) (a := b) (xs := (bitsL (bl S) S).map nv) (fun i J => Same (upd (upd H a (SetO w a (fun j => decide (j ∈ ints' (bitsL (bl S) S))) nn)) c (.lst ((ints' (bitsL (bl S) S)).map V.int))) J ∧ J C = some (.lst ((List.replicate i true).map V.bl)))
        ⟨same_upd nC, upd_same⟩ (fun i J _ hv => SqL.of (hv.1 _ _ hb1)) ?_ ?_
      · rintro i v J hv ⟨sJ, hC⟩
        have hi : i < (bitsL (bl S) S).length := by
          have := (List.getElem?_eq_some_iff.mp hv).1
          rwa [List.length_map] at this
        rw [List.getElem?_map, List.getElem?_eq_getElem hi] at hv
        have ev : v = nv (bitsL (bl S) S)[i] := (Option.some.inj hv).symm
        subst ev
        have below : (bitsL (bl S) S)[i] < m := Nat.lt_of_lt_of_le (bits_mem.mp (List.getElem_mem hi)).1 (bl_le lt)
        refine ⟨rfl, ?_⟩
        refine ⟨_, rfl, _, _, rfl, rfl, _, rfl, ifT (decide_eq_true (by omega)) ⟨_, rfl, _, _, rfl, rfl, ?_⟩⟩
        dsimp only
        rw [decide_eq_true (show (((bitsL (bl S) S)[i] : Nat) : Int) < (m : Int) by omega)]
        refine ⟨_, hC, ?_, same_put sJ nC, ?_⟩
        · rw [List.length_map, List.length_replicate]
          exact small1000 (by omega)
        · rw [upd_same, List.replicate_succ', List.map_append]
          rfl
      rintro H2 ⟨s2, hC⟩
      refine ⟨C, _, rfl, SqL.of hC, _, rfl, ?_⟩
      rw [show (List.replicate ((bitsL (bl S) S).map nv).length true).all id = true from by simp]
      refine ifF rfl ?_
      have s02 := sA.trans s2
      have hb2 := s02 _ _ hb
      refine ⟨_, rfl, p, rfl, ⟨_, s02.seq hp⟩, fun D nD => ?_⟩
      refine lc_list (K := K) (a := p) (xs := qs.map V.ref) (fun i J => Same H2 J ∧ J D = some (.lst ((List.replicate i true).map V.bl)))
        ⟨same_upd nD, upd_same⟩ (fun i J _ hv => hv.1.seq (s02.seq hp)) ?_ ?_
      · rintro i v J hv ⟨sJ, hD⟩
        have hi : i < eqs.length := by
          have := (List.getElem?_eq_some_iff.mp hv).1
          rwa [lenq] at this
        have hiq : i < qs.length := by rw [at0.len]; exact hi
        rw [List.getElem?_map, List.getElem?_eq_getElem hiq] at hv
        have ev : v = .ref qs[i] := (Option.some.inj hv).symm
        subst ev
        obtain ⟨u, hq, hu⟩ := (at0.same (s02.trans sJ)).at_ i qs[i] eqs[i] (List.getElem?_eq_getElem hiq) (List.getElem?_eq_getElem hi)
        have ine : eqs[i].1.length ≤ 1000 ∧ ∀ z ∈ eqs[i].1, z < m := ⟨shortE _ (List.getElem_mem hi), inE _ (List.getElem_mem hi)⟩
        have hbJ := sJ _ _ hb2
        refine ⟨qs[i], _, rfl, SqT.of hq, rfl, _, _, rfl, _, _, rfl, rfl, rfl, ?_⟩
        refine ⟨_, rfl, u, rfl, ⟨_, SqL.of hu⟩, fun C2 nC2 => ?_⟩
        refine lc_list (K := K) (a := u) (xs := eqs[i].1.map nv) (fun k J' => Same J J' ∧ J' C2 = some (.lst (((eqs[i].1.take k).filter fun z => decide (z ∈ bitsL (bl S) S)).map nv)))
          ⟨same_upd nC2, upd_same⟩ (fun k J' _ hv => SqL.of (hv.1 _ _ hu)) ?_ ?_
        · rintro k v J' hv ⟨sJ', hC2⟩
          have hk : k < eqs[i].1.length := by
            have := (List.getElem?_eq_some_iff.mp hv).1
            rwa [List.length_map] at this
          rw [List.getElem?_map, List.getElem?_eq_getElem hk] at hv
          have ev : v = nv eqs[i].1[k] := (Option.some.inj hv).symm
          subst ev
          refine ⟨rfl, ?_⟩
          refine ⟨_, rfl, _, rfl, b, _, rfl, .inl (SqL.of (sJ' _ _ hbJ)), rfl, flat_nums _, _, rfl, ?_⟩
          have tk2 : eqs[i].1.take (k + 1) = eqs[i].1.take k ++ [eqs[i].1[k]] := List.take_succ_eq_append_getElem hk
          rw [in_nums]
          simp only [Bool.false_eq_true, if_false]
          by_cases h : eqs[i].1[k] ∈ bitsL (bl S) S
          · rw [decide_eq_true h]
            refine iteT ⟨_, rfl, _, hC2, ?_, same_put sJ' nC2, ?_⟩
            · rw [List.length_map]
              refine Nat.lt_of_le_of_lt (List.length_filter_le _ _) ?_
              rw [List.length_take]
              exact small1000 (by omega)
            · rw [upd_same, tk2, List.filter_append, List.map_append]
              simp [h]
          · rw [decide_eq_false h]
            refine iteF ⟨sJ', ?_⟩
            rw [hC2, tk2, List.filter_append, List.map_append]
            simp [h]
        rintro J' ⟨sJ', hC2⟩
        rw [List.length_map, List.take_length] at hC2
        refine ⟨C2, _, rfl, .inl (SqL.of hC2), _, _, rfl, rfl, (by dsimp only; decide), _, rfl, rfl, _, sJ' _ _ hD, ?_, same_put (sJ.trans sJ') nD, ?_⟩
        · rw [List.length_map, List.length_replicate]
          exact small1000 (by omega)
        · rw [upd_same, List.replicate_succ', List.map_append]
          have o : Ones S (bitsL (bl S) S) := fun z => by
            rw [bits_mem]
            constructor
            · exact fun h => h.2
            · intro h
              refine ⟨?_, h⟩
              rcases Nat.lt_or_ge z (bl S) with q | q
              · exact q
              · rw [Nat.testBit_lt_two_pow (Nat.lt_of_lt_of_le (lt_bl S) (Nat.pow_le_pow_right (by decide) q))] at h
                cases h
          have g := sats i hi
          unfold gOf at g
          rw [List.getElem?_eq_getElem hi] at g
          have yes := (asks_sat o ine.2).mpr g
          have ec : decide ((fun i j => V.int (i % j)) (((List.map nv (List.filter (fun z => decide (z ∈ bitsL (bl S) S)) eqs[i].1)).length : Nat) : Int) 2 = nv eqs[i].2.toNat) = true := by
            dsimp only
            rw [List.length_map]
            unfold asks at yes
            have y2 := of_decide_eq_true yes
            apply decide_eq_true
            exact congrArg V.int (by omega)
          exact congrArg (fun b => some (HO.lst (List.map V.bl (List.replicate i true) ++ [V.bl b]))) ec
      rintro H3 ⟨s3, hD⟩
      refine ⟨D, _, rfl, SqL.of hD, ?_⟩
      rw [show (List.replicate (qs.map V.ref).length true).all id = true from by simp]
      exact q _ (s02.trans s3)
    · have fl : (bitsL (bl c) c).length ≤ 400 := by
        have := bits_few (bl c) c
        have := bl_le lt
        omega
      have hbi := hb
      rw [nums_ints] at hbi
      have il : (ints' (bitsL (bl c) c)).length ≤ 400 := by unfold ints'; rw [List.length_map]; exact fl
      refine ⟨_, rfl, t, _, rfl, SqT.of ht, rfl, _, _, rfl, _, _, rfl, rfl, ?_⟩
      refine ⟨_, rfl, _, _, _, _, true, rfl, .ty "list", .base (.lst hb), kit_ty (by decide +kernel), _, rfl, ifF rfl ?_⟩
      refine ⟨_, rfl, b, ints' (bitsL (bl c) c), rfl, SqL.of hbi, by omega, fun a nn na hnn => ⟨a, _, _, rfl, upd_same, by omega, fun up o srt mem len no => ?_⟩⟩
      have sA : Same H (upd (upd H a (SetO w a (fun j => decide (j ∈ ints' (bitsL (bl c) c))) nn)) o (.lst (up.map V.int))) := (same_upd na).trans (same_upd no)
      have e : up = ints' (bitsL (bl c) c) := rise_one _ _ srt (ints_rise (bits_rise _ _)) fun z => (mem z).trans decide_eq_true_iff
      subst e
      refine ⟨_, rfl, .list ((ints' (bitsL (bl c) c)).map PyData.int), .list ((ints' (bitsL (bl c) c)).map PyData.int), .lst (SqL.of upd_same) (dp_ints _), .lst (SqL.of (sA _ _ hbi)) (dp_ints _), shaped_ints' _, shaped_ints' _, _, rfl, ?_⟩
      rw [SeqAt.eqv_refl _ (SeqAt.canLay_of_shaped (shaped_ints' _))]
      refine ifF rfl ?_
      refine ⟨_, rfl, rfl, _, rfl, ifF (by decide +kernel) ?_⟩
      have hb1 := sA _ _ hb
      refine ⟨_, rfl, rfl, _, rfl, ifF (by decide +kernel) ?_⟩
      refine ⟨_, rfl, b, rfl, ⟨_, SqL.of hb1⟩, fun C nC => ?_⟩
      have item : ∀ {i : Nat} {v : V}, ((bitsL (bl c) c).map nv)[i]? = some v → ∃ hi : i < (bitsL (bl c) c).length, v = nv (bitsL (bl c) c)[i] ∧ (bitsL (bl c) c)[i] < eqs.length := by
        intro i v hv
        have hi : i < (bitsL (bl c) c).length := by
          have := (List.getElem?_eq_some_iff.mp hv).1
          rwa [List.length_map] at this
        rw [List.getElem?_map, List.getElem?_eq_getElem hi] at hv
        exact ⟨hi, (Option.some.inj hv).symm, Nat.lt_of_lt_of_le (bits_mem.mp (List.getElem_mem hi)).1 (bl_le lt)⟩
      refine lc_list (K := K) (a := b) (xs := (bitsL (bl c) c).map nv) (fun i J => Same (upd (upd H a (SetO w a (fun j => decide (j ∈ ints' (bitsL (bl c) c))) nn)) o (.lst ((ints' (bitsL (bl c) c)).map V.int))) J ∧ J C = some (.lst ((List.replicate i true).map V.bl)))
        ⟨same_upd nC, upd_same⟩ (fun i J _ hv => SqL.of (hv.1 _ _ hb1)) ?_ ?_
      · rintro i v J hv ⟨sJ, hC⟩
        obtain ⟨hi, rfl, below⟩ := item hv
        refine ⟨rfl, ?_⟩
        refine ⟨_, rfl, _, _, rfl, rfl, _, rfl, ifT (decide_eq_true (by omega)) ⟨_, rfl, p, _, rfl, .inl ((sA.trans sJ).seq hp), _, _, rfl, rfl, ?_⟩⟩
        dsimp only
        rw [decide_eq_true (show (((bitsL (bl c) c)[i] : Nat) : Int) < (((qs.map V.ref).length : Nat) : Int) by rw [lenq]; omega)]
        refine ⟨_, hC, ?_, same_put sJ nC, ?_⟩
        · rw [List.length_map, List.length_replicate]
          exact small1000 (by omega)
        · rw [upd_same, List.replicate_succ', List.map_append]
          rfl
      rintro H2 ⟨s2, hC⟩
      refine ⟨C, _, rfl, SqL.of hC, _, rfl, ?_⟩
      rw [show (List.replicate ((bitsL (bl c) c).map nv).length true).all id = true from by simp]
      refine ifF rfl ?_
      have s02 := sA.trans s2
      have hb2 := s02 _ _ hb
      refine ⟨_, rfl, b, rfl, ⟨_, SqL.of hb2⟩, fun D nD => ?_⟩
      refine lc_list (K := K) (a := b) (xs := (bitsL (bl c) c).map nv) (fun i J => Same H2 J ∧ ∃ us : List Addr, J D = some (.lst (us.map V.ref)) ∧ RowsI K H us (rowsOf eqs ((bitsL (bl c) c).take i)))
        ⟨same_upd nD, [], upd_same, ⟨rfl, fun i p r h => by cases h⟩⟩ (fun i J _ hv => SqL.of (hv.1 _ _ hb2)) ?_ ?_
      · rintro i v J hv ⟨sJ, us, hD, rows⟩
        obtain ⟨hi, rfl, below⟩ := item hv
        have hq : (bitsL (bl c) c)[i] < qs.length := by rw [at0.len]; exact below
        obtain ⟨u, hqs, hu⟩ := at0.at_ _ _ _ (List.getElem?_eq_getElem hq) (List.getElem?_eq_getElem below)
        have s0J := s02.trans sJ
        refine ⟨rfl, ?_⟩
        have hx : (qs.map V.ref)[(bitsL (bl c) c)[i]]? = some (.ref qs[(bitsL (bl c) c)[i]]) := by
          rw [List.getElem?_map, List.getElem?_eq_getElem hq]; rfl
        refine ⟨_, rfl, _, rfl, p, _, _, _, rfl, rfl, s0J.seq hp, atI_nat hx, _, _, 0, _, rfl, rfl, SqT.of (s0J _ _ hqs), rfl, _, hD, ?_, same_put sJ nD, us ++ [u], ?_, ?_⟩
        · rw [List.length_map]
          have := rows.1
          unfold rowsOf at this
          rw [List.length_map, List.length_take] at this
          exact small1000 (by omega)
        · rw [upd_same, List.map_append]
          rfl
        · have tk : rowsOf eqs ((bitsL (bl c) c).take (i + 1)) = rowsOf eqs ((bitsL (bl c) c).take i) ++ [ints' (usOf eqs (bitsL (bl c) c)[i])] := by
            unfold rowsOf
            rw [List.take_succ_eq_append_getElem hi, List.map_append]
            rfl
          rw [tk]
          refine ⟨by rw [List.length_append, List.length_append, rows.1]; rfl, fun j a r ha hr => ?_⟩
          by_cases l : j < us.length
          · rw [List.getElem?_append_left l] at ha
            rw [List.getElem?_append_left (by rw [← rows.1]; exact l)] at hr
            exact rows.2 j a r ha hr
          · have jl : j = us.length := by
              have := (List.getElem?_eq_some_iff.mp ha).1
              rw [List.length_append] at this
              simp at this
              omega
            subst jl
            rw [List.getElem?_append_right (Nat.le_refl _), Nat.sub_self] at ha
            rw [List.getElem?_append_right (by rw [rows.1]; exact Nat.le_refl _), rows.1, Nat.sub_self] at hr
            cases ha
            cases hr
            rw [← nums_ints]
            unfold usOf
            rw [List.getElem?_eq_getElem below]
            exact SqL.of hu
      rintro H3 ⟨s3, us, hD, rows⟩
      rw [List.length_map, List.take_length] at rows
      have s03 := s02.trans s3
      have small : (rowsOf eqs (bitsL (bl c) c)).flatten.length ≤ 1000 := by
        have h1 := flat_le eqs k0 short (bitsL (bl c) c)
        have h2 := bits_few (bl c) c
        have h3 := bl_le lt
        have h4 : (bitsL (bl c) c).length * k0 ≤ eqs.length * k0 := Nat.mul_le_mul_right _ (by omega)
        omega
      refine ⟨D, us, rowsOf eqs (bitsL (bl c) c), rfl, SqL.of hD, rows.same s03, small, fun H4 o2 ys s4 no2 ho2 srt2 mem2 => ?_⟩
      have ye : ys = [] := List.eq_nil_iff_forall_not_mem.mpr fun z hz => by
        have h1 := (mem2 z).mp hz
        rw [even_rows lt z0 z] at h1
        cases h1
      subst ye
      refine ⟨Nat.zero_le _, fun o3 no3 => ?_⟩
      refine ⟨.list [], .list [], .lst (SqL.of ((same_upd no3) _ _ ho2)) .nil, .lst (SqL.of upd_same) .nil, shaped_ints' [], shaped_ints' [], _, rfl, ifT rfl ?_⟩
      have s05 := (s03.trans s4).trans (same_upd (o := .lst []) no3)
      have hb5 := s05 _ _ hb
      refine ⟨_, rfl, b, rfl, ⟨_, SqL.of hb5⟩, fun D2 nD2 => ?_⟩
      refine lc_list (K := K) (a := b) (xs := (bitsL (bl c) c).map nv) (fun i J => Same (upd H4 o3 (.lst [])) J ∧ J D2 = some (.lst ((valsOf eqs ((bitsL (bl c) c).take i)).map V.int)))
        ⟨same_upd nD2, upd_same⟩ (fun i J _ hv => SqL.of (hv.1 _ _ hb5)) ?_ ?_
      · rintro i v J hv ⟨sJ, hD2⟩
        obtain ⟨hi, rfl, below⟩ := item hv
        have hq : (bitsL (bl c) c)[i] < qs.length := by rw [at0.len]; exact below
        obtain ⟨u, hqs, hu⟩ := at0.at_ _ _ _ (List.getElem?_eq_getElem hq) (List.getElem?_eq_getElem below)
        have s0J := s05.trans sJ
        refine ⟨rfl, ?_⟩
        have hx : (qs.map V.ref)[(bitsL (bl c) c)[i]]? = some (.ref qs[(bitsL (bl c) c)[i]]) := by
          rw [List.getElem?_map, List.getElem?_eq_getElem hq]; rfl
        refine ⟨_, rfl, _, rfl, p, _, _, _, rfl, rfl, s0J.seq hp, atI_nat hx, _, _, 1, _, rfl, rfl, SqT.of (s0J _ _ hqs), rfl, _, hD2, ?_, same_put sJ nD2, ?_⟩
        · unfold valsOf
          rw [List.length_map, List.length_map, List.length_take]
          exact small1000 (by omega)
        · rw [upd_same, List.take_succ_eq_append_getElem hi, vals_app, List.map_append]
          unfold valsOf vOf
          rw [List.map_cons, List.map_nil, List.map_cons, List.map_nil, List.getElem?_eq_getElem below]
          rfl
      rintro H6 ⟨s6, hD2⟩
      rw [List.length_map, List.take_length] at hD2
      refine ⟨D2, _, rfl, SqL.of hD2, _, _, rfl, rfl, (by dsimp only; decide), rfl, ?_⟩
      have ee : V.int ((valsOf eqs (bitsL (bl c) c)).sum % 2) = V.int 1 := by rw [odd_vals lt v1]
      exact Eq.mpr (congrArg (fun b => Q (V.bl b) H6) (decide_eq_true ee)) (q _ (s05.trans s6))
end


end T40

/-! equations and answers as data; a call by keywords alone -/
namespace Tm
open PySem PySem.Spec PyProof.Rows L2 Tm.Gauss
theorem lay_ints : ∀ ns : List Int, PyData.canLayAll0 (ns.map PyData.int) = true
  | [] => by simp [PyData.canLayAll0]
  | n :: r => by
    have ih := lay_ints r
    simp [PyData.canLayAll0, PyData.canLay0, ih]
theorem dep_ints : ∀ ns : List Int, PyData.depthAll (ns.map PyData.int) = 0
  | [] => by simp [PyData.depthAll]
  | n :: r => by
    have ih := dep_ints r
    simp [PyData.depthAll, PyData.depth, ih]
def dE (e : List Nat × Bool) : PyData := .tuple [.list ((ints' e.1).map PyData.int), .int ((e.2.toNat : Nat) : Int)]
theorem lay_E : ∀ eqs : List (List Nat × Bool), PyData.canLayAll0 (eqs.map dE) = true
  | [] => by simp [PyData.canLayAll0]
  | e :: r => by
    have ih := lay_E r
    simp [PyData.canLayAll0, PyData.canLay0, dE, lay_ints, ih]
theorem dep_E : ∀ eqs : List (List Nat × Bool), PyData.depthAll (eqs.map dE) ≤ 2
  | [] => by simp [PyData.depthAll]
  | e :: r => by
    have ih := dep_E r
    simp only [List.map_cons, PyData.depthAll, dE, PyData.depth, dep_ints]
    omega
theorem shaped_E (eqs : List (List Nat × Bool)) : SeqAt.shaped (.list (eqs.map dE)) = true := by
  have d := dep_E eqs
  unfold SeqAt.shaped
  rw [PyData.canLay0, lay_E eqs, PyData.depth, Bool.true_and]
  exact decide_eq_true (by omega)
theorem dp_eqs {K : PySem.W.Frag} {H : Hp} : ∀ (qs : List Addr) (eqs : List (List Nat × Bool)), EqsAt H qs eqs → DpAll K H (qs.map V.ref) (eqs.map dE)
  | [], [], _ => .nil
  | [], e :: r, h => absurd h.len (by simp)
  | q :: qs, [], h => absurd h.len (by simp)
  | q :: qs, e :: eqs, h => by
    obtain ⟨u, h1, h2⟩ := h.at_ 0 q e rfl rfl
    have rest : EqsAt H qs eqs := ⟨by have := h.len; simpa using this, fun i a c ha hc => h.at_ (i + 1) a c ha hc⟩
    rw [nums_ints] at h2
    exact .cons (.tup (SqT.of h1) (.cons (.lst (SqL.of h2) (dp_ints _)) (.cons (.int _) .nil))) (dp_eqs qs eqs rest)
def dA (a : Nat ⊕ Nat) : PyData := .tuple [.str (wordA a), .list ((ints' (bitsL (bl (numA a)) (numA a))).map PyData.int)]
theorem shaped_A (a : Nat ⊕ Nat) : SeqAt.shaped (dA a) = true := by
  have w : PyData.strOk (wordA a) = true := by
    cases a with
    | inl S => show PyData.strOk sSol = true; decide +kernel
    | inr c => show PyData.strOk sCon = true; decide +kernel
  unfold SeqAt.shaped dA
  simp [PyData.canLay0, PyData.canLayAll0, PyData.depth, PyData.depthAll, lay_ints, dep_ints, w]
theorem AnsAt.dp {K : PySem.W.Frag} {H : Hp} {t : Addr} {a : Nat ⊕ Nat} (h : AnsAt H t a) : Dp K H (.ref t) (dA a) := by
  obtain ⟨b, h1, h2⟩ := h
  rw [nums_ints] at h2
  exact .tup (SqT.of h1) (.cons (.str _) (.cons (.lst (SqL.of h2) (dp_ints _)) .nil))
def rListK (K : PySem.W.Frag) : List V → Hp → VK → Prop := fun given H Q => ∃ p xs, given = [.ref p] ∧ (SqL K H p xs ∨ SqT K H p xs) ∧ ∀ l, H l = none → Q (.ref l) (upd H l (.lst xs))
theorem cr_listK {X : Cx} : CallR X (.type "list") (rListK X.K) := call_list_of
def rTupL : List V → Hp → VK → Prop := fun given H Q => ∃ p ys, given = [.ref p] ∧ H p = some (.lst ys) ∧ ∀ l, H l = none → Q (.ref l) (upd H l (.tup ys))
theorem cr_tupL {X : Cx} : CallR X (.type "tuple") rTupL :=
  fun pins s σ H given held Q inv rel ask => by
    obtain ⟨p, ys, e, hp, q⟩ := ask
    exact call_tuple_of pins s σ H given held Q inv rel ⟨p, ys, e, .inl ⟨SqL.of hp, q⟩⟩
/-- f(k = v, ..) without a value by place -/
def tNamed (m : Nat) (sp : Sp) (gV : List V → List V → List V) (E : XK) (tk : TA) : TE := fun σ H Q => tk σ H fun zs H1 => zs.length = m ∧ sp (gV [] zs) H1 Q E
theorem pe_named {X : Cx} {CX : CXT} {k : Nat} {f : Addr} {fd : FuncData} {ps ks : List Str} {sp : Sp} {E : XK} {x : Str} {p pos : Pos} {kws : List Keyword} {tk : TA} {g : List Value → List Value → List Value} {gV : List V → List V → List V}
    (fn : FnOk X.prog X.w X.K X.mg X.base CX k f fd ps sp) (room : Room k X.A) (glob : Gl X x) (holds : X.mg x = some (.ref f)) (kept : PySem.W.keepIn X.K (.ref f) = true) (binds : KBn X.K fd ps 0 ks g gV) (passes : Passes CX X E) (args : PK X kws tk)
    (all : (backToKw pos (keywordEach kws X.env)).all (·.1.isSome) = true := by rfl) (names : (backToKw pos (keywordEach kws X.env)).filterMap (·.1) = ks := by rfl) (plainName : (x == ("__debug__" : Str)) = false := by decide)
    (plain : ((backTo pos (starEach [] X.env)).any (·.1) || (backToKw pos (keywordEach kws X.env)).any (·.1.isNone)) = false := by rfl) :
    PE X (.Call (.Name x p) [] kws pos) (tNamed ks.length sp gV E tk) where
  run pins s σ H Q inv ask := by
    apply wpAny_Call_Name_kw
    apply ld_glob inv glob holds _ plainName
    apply PySem.W.callWith_KW0 (h₀ := X.base) inv.ok.mod.kin kept all _ plain
    apply wpAny_mono (args.run pos pins s σ H _ inv ask) _ (fun _ _ raised => raised)
    rintro ws s1 ⟨zs, H1, inv1, rel, len, goal⟩
    refine ⟨inv1.kIn, ?_⟩
    rw [names]
    exact run_fnN fn room binds passes inv1 .nil rel rfl len goal
end Tm

namespace T40
open PySem PySem.Spec PyProof.Rows L2 Tm
abbrev sLaw : Stmt := topS 15
theorem scLaw : FnScope ["_law_script", "_law_bag_here", "_law_turn", "_law_mcount", "_law_rows", "_law_given", "_law_told", "_law_values", "_law_ring", "_law_unknowns", "_law_value", "_law_k"] ["_law_script"] (defScope sLaw) := ⟨rfl, rfl, rfl, by decide +kernel, rfl, by decide +kernel, by decide +kernel⟩
open Gauss
def back2 {α : Type} : List α → List α
  | [c, e] => [e, c]
  | _ => []
theorem eqs_keep {H H' : Hp} {b l : Addr} {qs : List Addr} {eqs : List (List Nat × Bool)} (h : EqsAt H qs eqs) (B : Bag H b l) (k : Kp b H H') : EqsAt H' qs eqs := by
  obtain ⟨xs, i, n, s, hb, _⟩ := B
  refine ⟨h.len, fun j q e hq he => ?_⟩
  obtain ⟨u, h1, h2⟩ := h.at_ j q e hq he
  have nq : q ≠ b := fun z => by rw [z, hb] at h1; cases h1
  have nu : u ≠ b := fun z => by
    rw [z, hb] at h2
    have e2 := HO.lst.inj (Option.some.inj h2)
    cases hc : e.1 with
    | nil => rw [hc] at e2; cases e2
    | cons x r => rw [hc] at e2; cases e2
  exact ⟨u, k _ _ nq h1, k _ _ nu h2⟩
theorem EqA.same {H H' : Hp} {b R : Addr} {qs : List Addr} {eqs : List (List Nat × Bool)} (h : EqA H b R qs eqs) (s : Same H H') : EqA H' b R qs eqs := h.kp (Kp.of_same s)
theorem eqg_putL {J : Hp} {E : Addr} {xs : List V} {o : HO} {qs : List Addr} {eqs : List (List Nat × Bool)} (h : EqsG true J qs eqs) (hE : J E = some (.lst xs)) : EqsG true (upd J E o) qs eqs :=
  ⟨h.len, fun i q e hq he => by
    obtain ⟨u, h1, h2⟩ := h.at_ i q e hq he
    have n1 : q ≠ E := fun z => by rw [z, hE] at h1; cases h1
    have n2 : u ≠ E := fun z => by rw [z, hE] at h2; cases h2
    exact ⟨u, by rw [upd_ne n1]; exact h1, by rw [upd_ne n2]; exact h2⟩⟩
theorem eqg_snoc {tu : Bool} {H : Hp} {qs : List Addr} {eqs : List (List Nat × Bool)} {q u : Addr} {e : List Nat × Bool} (h : EqsG tu H qs eqs) (h1 : H q = some (.tup [.ref u, nv e.2.toNat])) (h2 : H u = some (if tu then .tup (e.1.map nv) else .lst (e.1.map nv))) : EqsG tu H (qs ++ [q]) (eqs ++ [e]) := by
  refine ⟨by rw [List.length_append, List.length_append, h.len]; rfl, fun i a c ha hc => ?_⟩
  by_cases lt : i < qs.length
  · rw [List.getElem?_append_left lt] at ha
    rw [List.getElem?_append_left (by rw [← h.len]; exact lt)] at hc
    exact h.at_ i a c ha hc
  · rw [List.getElem?_append_right (by omega)] at ha
    rw [List.getElem?_append_right (by rw [← h.len]; omega)] at hc
    have hi : i - qs.length = 0 := by
      have := (List.getElem?_eq_some_iff.mp ha).1
      simp at this
      omega
    rw [hi] at ha
    rw [← h.len, hi] at hc
    cases ha
    cases hc
    exact ⟨u, h1, h2⟩
def ringE (bs : List Bool) (n : Nat) : List (List Nat × Bool) := (List.range n).map fun k => ([k, (k + 1) % 400], bs.getD k false)
theorem ring_len (bs : List Bool) (n : Nat) : (ringE bs n).length = n := by unfold ringE; rw [List.length_map, List.length_range]
theorem ring_in {bs : List Bool} {n : Nat} (hn : n ≤ 400) {e : List Nat × Bool} (h : e ∈ ringE bs n) : e.1.length ≤ 2 ∧ ∀ z ∈ e.1, z < 400 := by
  unfold ringE at h
  obtain ⟨k, hk, rfl⟩ := List.mem_map.mp h
  have := List.mem_range.mp hk
  refine ⟨Nat.le_refl 2, fun z hz => ?_⟩
  simp only [List.mem_cons, List.not_mem_nil, or_false] at hz
  rcases hz with rfl | rfl <;> omega
theorem ring_succ (bs : List Bool) (n : Nat) : ringE bs (n + 1) = ringE bs n ++ [([n, (n + 1) % 400], bs.getD n false)] := by
  unfold ringE
  rw [List.range_succ, List.map_append]
  rfl
theorem eqs_take {H : Hp} {qs : List Addr} {eqs : List (List Nat × Bool)} (h : EqsAt H qs eqs) (n : Nat) : EqsAt H (qs.take n) (eqs.take n) := by
  refine ⟨by rw [List.length_take, List.length_take, h.len], fun i q e hq he => ?_⟩
  by_cases l : i < n
  · rw [List.getElem?_take_of_lt l] at hq he
    exact h.at_ i q e hq he
  · rw [List.getElem?_take_eq_none (by omega)] at hq
    cases hq
theorem told_none : Told 0 (gOf []) 0 (.inl 0) := ⟨_, .nil, [], .nil, fun L => ⟨fun h => absurd h List.not_mem_nil, fun ⟨r, h⟩ => by cases h⟩, rfl⟩
theorem told_one : Told 3 (gOf [([], true)]) 1 (.inr 1) := ⟨0, _, _, by decide, .nil, .stop rfl, rfl, rfl, rfl⟩
section
variable {P : Program} {w : World} {K : PySem.W.Frag} {mg : Str → Option Value} {base : Heap}
set_option maxHeartbeats 2000000 in
theorem ok_law {f fI fN fT fO fS fB fP fA fM fW fQ fV fE : Addr} {fd fdI fdN fdT fdO fdS fdB fdP fdA fdM fdW fdQ fdV fdE : FuncData} (F : Fun K "law" "law" sLaw f fd)
    (FI : Fun K "bits_of" "bits_of" sBits fI fdI) (bI : Binds K fdI ["number"] []) (gI : mg "bits_of" = some (.ref fI))
    (FN : Fun K "number_with" "number_with" sNumW fN fdN) (bN : Binds K fdN ["places"] []) (gN : mg "number_with" = some (.ref fN))
    (FT : Fun K "row_without_tops" "row_without_tops" sTops fT fdT) (bT : Binds K fdT ["row", "rows"] []) (gT : mg "row_without_tops" = some (.ref fT))
    (FO : Fun K "ones_of" "ones_of" sOnes fO fdO) (bO : Binds K fdO ["rows"] []) (gO : mg "ones_of" = some (.ref fO))
    (FS : Fun K "solve" "solve" sSolve fS fdS) (bS : KBn K fdS ["equations", "count"] 1 ["count"] (fun us ws => us ++ ws) (fun vs zs => vs ++ zs)) (cS : KBn K fdS ["equations", "count"] 0 ["count", "equations"] (fun us ws => us ++ back2 ws) (fun vs zs => vs ++ back2 zs)) (gS : mg "solve" = some (.ref fS))
    (FB : Fun K "_law_bag" "_law_bag" sBag fB fdB) (bB : Binds K fdB ["_law_script"] []) (gB : mg "_law_bag" = some (.ref fB))
    (FP : Fun K "_law_pull" "_law_pull" sPull fP fdP) (bP : Binds K fdP ["_law_bag_here", "_law_many"] []) (gP : mg "_law_pull" = some (.ref fP))
    (FA : Fun K "_law_of" "_law_of" sOf fA fdA) (bA : Binds K fdA ["_law_bag_here", "_law_things"] []) (gA : mg "_law_of" = some (.ref fA))
    (FM : Fun K "_law_mixed" "_law_mixed" sMixed fM fdM) (bM : Binds K fdM ["_law_bag_here", "_law_things"] []) (gM : mg "_law_mixed" = some (.ref fM))
    (FW : Fun K "_law_sum" "_law_sum" sLSum fW fdW) (bW : Binds K fdW ["_law_rows"] []) (gW : mg "_law_sum" = some (.ref fW))
    (FQ : Fun K "_law_equations" "_law_equations" sEqs fQ fdQ) (bQ : Binds K fdQ ["_law_bag_here", "_law_mcount"] []) (gQ : mg "_law_equations" = some (.ref fQ))
    (FV : Fun K "_law_solves" "_law_solves" sSv fV fdV) (bV : Binds K fdV ["_law_rows", "_law_mcount", "_law_answer"] []) (gV : mg "_law_solves" = some (.ref fV))
    (FE : Fun K "_law_same" "_law_same" sSame fE fdE) (bE : Binds K fdE ["_law_found", "_law_due"] []) (gE : mg "_law_same" = some (.ref fE))
    (TT : SameT mg) (ms : mg "sorted" = none) (mset : mg "set" = none) (msum : mg "sum" = none) (me : mg "enumerate" = none) (mr : mg "range" = none) :
    FnOk P w K mg base CX0 5 f fd ["_law_script"] (spLaw K) := by
  have ml := TT.len
  have mli := TT.list
  have mi := TT.isi
  have ma := TT.all
  have mtu := TT.tuple
  have mint := TT.int
  have GB : FnOk P w K mg base CX0 1 fB fdB ["_law_script"] (spBag K) := ok_bag FB mli
  have GP : FnOk P w K mg base CX0 1 fP fdP ["_law_bag_here", "_law_many"] spPull := ok_pull FP ml
  have GQ : FnOk P w K mg base CX0 3 fQ fdQ ["_law_bag_here", "_law_mcount"] spEqs := ok_eqs FQ FP bP gP FA bA gA FM bM gM FW bW gW ml mli mr ms mset mint
  have GS : FnOk P w K mg base CX0 3 fS fdS ["equations", "count"] (spSolveE K) := ok_solveE FS FI bI gI FN bN gN FT bT gT FO bO gO ms ml me
  have GV : FnOk P w K mg base CX0 2 fV fdV ["_law_rows", "_law_mcount", "_law_answer"] (spSolvesE K) := ok_solvesE FV FW bW gW mi mli ms mset ma ml msum
  have GE : FnOk P w K mg base CX0 4 fE fdE ["_law_found", "_law_due"] (spSame 3) := ok_same FE TT gE bE 3
  refine F.ok scLaw (fun vs H Q E h => ?_) (fun cdv A outer s H vs Q E hr h => ?_)
  · obtain ⟨a, ns, rfl, _⟩ := h
    rfl
  · obtain ⟨a, ns, rfl, ha, hn, qq⟩ := h
    have hr3 : Room 3 _ := hr.mono (by decide)
    have hr2 : Room 2 _ := hr.mono (by decide)
    have hr1 : Room 1 _ := hr.mono (by decide)
    refine ⟨_, pss_cons (ps_set (i := 1) scLaw.nd rfl (.inr rfl) (pe_call GB hr1 (by rfl) gB FB.kp bB .nil pass0 (pa_cons (pv 0) pa_nil)))
      (pss_cons (ps_for PassesOwn.never rfl (pi_range1 (by rfl) mr (pa_cons pe_int pa_nil)) (pg_name (i := 2) scLaw.nd rfl (.inl rfl))
        (pss_cons (ps_set (i := 3) scLaw.nd rfl (.inl rfl) (pe_call GP hr1 (by rfl) gP FP.kp bP .nil pass0 (pa_cons (pv 1) (pa_cons pe_int pa_nil))))
        (pss_cons (ps_set (i := 4) scLaw.nd rfl (.inl rfl) (pe_call GQ hr3 (by rfl) gQ FQ.kp bQ .nil pass0 (pa_cons (pv 1) (pa_cons (pv 3) pa_nil))))
        (pss_cons (ps_setLc (i := 5) (own := [("_law_unknowns", 9), ("_law_value", 10)]) (g := gTup K 2 (gCons (gName 9) (gCons (gName 10) gNil))) (tt := tYes) rfl scLaw.nd rfl rfl (sw_true rfl rfl rfl (by decide +kernel)) (pi_list (pv 4)) (blkOk_by (own := [("_law_unknowns", 9), ("_law_value", 10)]) (N := ["_law_script", "_law_bag_here", "_law_turn", "_law_mcount", "_law_rows", "_law_given", "_law_told", "_law_values", "_law_ring", "_law_unknowns", "_law_value", "_law_k"]) (sc := defScope sLaw) (by decide +kernel)) (fun _ _ _ _ _ => pg_tup rfl (pgs_cons (pg_name (i := 9) scLaw.nd rfl (Or.inl rfl)) (pgs_cons (pg_name (i := 10) scLaw.nd rfl (Or.inl rfl)) pgs_nil))) (fun _ _ _ _ _ => pts_nil) (fun _ _ _ _ _ => pe_tup (pa_cons (pe_callTy (show CallR _ _ (rListK K) from cr_listK) (by rfl) mli boot_list (pa_cons (pv 9) pa_nil)) (pa_cons (pv 10) pa_nil))))
        (pss_cons (ps_set (i := 6) scLaw.nd rfl (.inl rfl) (pe_callN GS hr3 (by rfl) gS FS.kp bS pass0 (pa_cons (pe_ifExp (pt_cmpR op_eq (pe_call GP hr1 (by rfl) gP FP.kp bP .nil pass0 (pa_cons (pv 1) (pa_cons pe_int pa_nil))) pe_int (nomark _)) (pv 5) (pe_callTy cr_tupL (by rfl) mtu boot_tuple (pa_cons (pv 5) pa_nil))) pa_nil) (pk_cons (pv 3) pk_nil)))
        (pss_cons (ps_if (PW.pt (pw_or (pt_not (pt_val (pe_callB call_isi (by rfl) mi boot_isinstance (pa_cons (pv 6) (pa_cons (pe_bltn (v := .ty "tuple") (by rfl) mtu (by decide +kernel) rfl) pa_nil))))) (pw_or (pt_not (pt_val (pe_call GV hr2 (by rfl) gV FV.kp bV .nil pass0 (pa_cons (pv 4) (pa_cons (pv 3) (pa_cons (pv 6) pa_nil)))))) (pw_or1 (pt_cmpR (op_neD hr.units) (pv 5) (pv 4) (nomark _)))))) pss_never pss_nil)
        (pss_cons (ps_if (pt_cmpR (op_neD hr.units) (pe_named GS hr3 (by rfl) gS FS.kp cS pass0 (pk_cons (pv 3) (pk_cons (pv 5) pk_nil))) (pe_callN GS hr3 (by rfl) gS FS.kp bS pass0 (pa_cons (pv 5) pa_nil) (pk_cons (pv 3) pk_nil)) (nomark _)) pss_never pss_nil)
        (pss_cons (ps_set (i := 6) scLaw.nd rfl (.inl rfl) (pe_callN GS hr3 (by rfl) gS FS.kp bS pass0 (pa_cons (pe_lc (own := [("_law_unknowns", 9), ("_law_value", 10)]) (g := gTup K 2 (gCons (gName 9) (gCons (gName 10) gNil))) (tt := tYes) rfl scLaw.nd (pi_list (pv 4)) (blkOk_by (own := [("_law_unknowns", 9), ("_law_value", 10)]) (N := ["_law_script", "_law_bag_here", "_law_turn", "_law_mcount", "_law_rows", "_law_given", "_law_told", "_law_values", "_law_ring", "_law_unknowns", "_law_value", "_law_k"]) (sc := defScope sLaw) (by decide +kernel)) (fun _ _ _ _ _ => pg_tup rfl (pgs_cons (pg_name (i := 9) scLaw.nd rfl (Or.inl rfl)) (pgs_cons (pg_name (i := 10) scLaw.nd rfl (Or.inl rfl)) pgs_nil))) (fun _ _ _ _ _ => pts_nil) (fun _ _ _ _ _ => pe_tup (pa_cons (pe_callTy cr_tupL (by rfl) mtu boot_tuple (pa_cons (pv 9) pa_nil)) (pa_cons (pv 10) pa_nil)))) pa_nil) (pk_cons (pv 3) pk_nil)))
        (pss_one (ps_if (PW.pt (pw_or (pt_not (pt_val (pe_callB call_isi (by rfl) mi boot_isinstance (pa_cons (pv 6) (pa_cons (pe_bltn (v := .ty "tuple") (by rfl) mtu (by decide +kernel) rfl) pa_nil))))) (pw_or1 (pt_not (pt_val (pe_call GV hr2 (by rfl) gV FV.kp bV .nil pass0 (pa_cons (pv 4) (pa_cons (pv 3) (pa_cons (pv 6) pa_nil))))))))) pss_never pss_nil))))))))))
      (pss_cons (ps_set (i := 7) scLaw.nd rfl (.inr rfl) (pe_lc (own := [("_law_k", 11)]) (g := gName 11) (tt := tYes) rfl scLaw.nd (pi_range1 (by rfl) mr (pa_cons pe_int pa_nil)) (blkOk_by (own := [("_law_k", 11)]) (N := ["_law_script", "_law_bag_here", "_law_turn", "_law_mcount", "_law_rows", "_law_given", "_law_told", "_law_values", "_law_ring", "_law_unknowns", "_law_value", "_law_k"]) (sc := defScope sLaw) (by decide +kernel)) (fun _ _ _ _ _ => pg_name (i := 11) scLaw.nd rfl (Or.inl rfl)) (fun _ _ _ _ _ => pts_nil) (fun _ _ _ _ _ => (pe_call GP hr1 (by rfl) gP FP.kp bP .nil pass0 (pa_cons (pv 1) (pa_cons pe_int pa_nil))))))
      (pss_cons (ps_setLc (i := 8) (own := [("_law_k", 11)]) (g := gName 11) (tt := tYes) rfl scLaw.nd rfl rfl (sw_true rfl rfl rfl (by decide +kernel)) (pi_range1 (by rfl) mr (pa_cons pe_int pa_nil)) (blkOk_by (own := [("_law_k", 11)]) (N := ["_law_script", "_law_bag_here", "_law_turn", "_law_mcount", "_law_rows", "_law_given", "_law_told", "_law_values", "_law_ring", "_law_unknowns", "_law_value", "_law_k"]) (sc := defScope sLaw) (by decide +kernel)) (fun _ _ _ _ _ => pg_name (i := 11) scLaw.nd rfl (Or.inl rfl)) (fun _ _ _ _ _ => pts_nil) (fun _ _ _ _ _ => pe_tup (pa_cons (pe_lst (pa_cons (pv 11) (pa_cons (pe_op op_mod (pe_op op_add (pv 11) pe_int) pe_int) pa_nil))) (pa_cons (pe_ix (show IxR _ (rIxL K) from ix_list) (pv 7) (pv 11) (fun _ _ => rfl)) pa_nil))))
      (pss_cons (ps_for PassesOwn.never rfl (pi_list (pe_lst (pa_cons (pv 8) (pa_cons (pe_slice sl_list (pv 8) po_none (po_some pe_int)) pa_nil)))) (pg_name (i := 4) scLaw.nd rfl (.inl rfl))
        (pss_cons (ps_set (i := 6) scLaw.nd rfl (.inl rfl) (pe_callN GS hr3 (by rfl) gS FS.kp bS pass0 (pa_cons (pv 4) pa_nil) (pk_cons pe_int pk_nil)))
        (pss_one (ps_if (PW.pt (pw_or (pt_not (pt_val (pe_callB call_isi (by rfl) mi boot_isinstance (pa_cons (pv 6) (pa_cons (pe_bltn (v := .ty "tuple") (by rfl) mtu (by decide +kernel) rfl) pa_nil))))) (pw_or1 (pt_not (pt_val (pe_call GV hr2 (by rfl) gV FV.kp bV .nil pass0 (pa_cons (pv 4) (pa_cons pe_int (pa_cons (pv 6) pa_nil))))))))) pss_never pss_nil))))
      (pss_one (ps_ret (pe_call GE hr (by rfl) gE FE.kp bE .nil pass0 (pa_cons (pe_lst (pa_cons (pe_callN GS hr3 (by rfl) gS FS.kp bS pass0 (pa_cons (pe_lst pa_nil) pa_nil) (pk_cons pe_int pk_nil)) (pa_cons (pe_callN GS hr3 (by rfl) gS FS.kp bS pass0 (pa_cons (pe_lst (pa_cons (pe_tup (pa_cons (pe_lst pa_nil) (pa_cons pe_int pa_nil))) pa_nil)) pa_nil) (pk_cons pe_int pk_nil)) pa_nil))) (pa_cons (pe_lst (pa_cons (pe_tup (pa_cons pe_str (pa_cons (pe_lst pa_nil) pa_nil))) (pa_cons (pe_tup (pa_cons pe_str (pa_cons (pe_lst (pa_cons pe_int pa_nil)) pa_nil))) pa_nil))) pa_nil))))))))), ?_⟩
    refine ⟨_, rfl, a, ns, rfl, ha, fun H0 b l s0 nb nl B0 => ?_⟩
    refine ⟨6, rfl, by decide, by decide, ?_⟩
    refine for_range (lo := 0) (n := 6) (fun i σ H' => ∃ y2 y3 y4 y5 y6 : Option V, σ = [some (.ref a), some (.ref b), y2, y3, y4, y5, y6, none, none, none, none, none] ∧ Bag H' b l) ⟨none, none, none, none, none, rfl, B0⟩ ?_ ?_
    · rintro i σ H1 hi ⟨y2, y3, y4, y5, y6, rfl, B1⟩
      refine ⟨_, rfl, b, l, 10, rfl, B1, by decide, by decide, fun H2 d k2 B2 d0 d1 => ?_⟩
      obtain ⟨m, rfl⟩ : ∃ m : Nat, d = ((m : Nat) : Int) := ⟨d.toNat, by omega⟩
      have hm : m ≤ 9 := by omega
      refine ⟨_, rfl, _, rfl, b, l, m, rfl, B2, hm, fun H3 R qs eqs k3 B3 nR hR at0 len0 in0 => ?_⟩
      have nRb : R ≠ b := B2.nb nR
      have lenq : (qs.map V.ref).length = eqs.length := by rw [List.length_map, at0.len]
      have short : ∀ e ∈ eqs, e.1.length ≤ 9 := fun e he => by
        have h := in0 e he
        have h2 := nodup_le e.1 (List.range m) h.1 fun z hz => List.mem_range.mpr (h.2 z hz)
        rw [List.length_range] at h2
        omega
      have inE : ∀ e ∈ eqs, ∀ z ∈ e.1, z < m := fun e he => (in0 e he).2
      have item : ∀ {J : Hp} {j : Nat} {v : V}, EqsAt J qs eqs → (qs.map V.ref)[j]? = some v → ∃ (hj : j < eqs.length) (q u : Addr), v = .ref q ∧ J q = some (.tup [.ref u, nv eqs[j].2.toNat]) ∧ J u = some (.lst (eqs[j].1.map nv)) := by
        intro J j v atJ hv
        have hj : j < eqs.length := by
          have := (List.getElem?_eq_some_iff.mp hv).1
          rwa [lenq] at this
        have hjq : j < qs.length := by rw [at0.len]; exact hj
        rw [List.getElem?_map, List.getElem?_eq_getElem hjq] at hv
        obtain ⟨u, h1, h2⟩ := atJ.at_ j qs[j] eqs[j] (List.getElem?_eq_getElem hjq) (List.getElem?_eq_getElem hj)
        exact ⟨hj, qs[j], u, (Option.some.inj hv).symm, h1, h2⟩
      -- given
      refine ⟨_, rfl, R, rfl, ⟨_, SqL.of hR⟩, fun D nD => ?_⟩
      have nDb : D ≠ b := B3.nb nD
      refine lc_list (K := K) (a := R) (xs := qs.map V.ref) (fun j J => Same H3 J ∧ ∃ gs : List Addr, J D = some (.lst (gs.map V.ref)) ∧ EqA J b D gs (eqs.take j)) ⟨same_upd nD, [], upd_same, ⟨rfl, fun i q e hq => by cases hq⟩⟩ (fun j J _ hv => SqL.of (hv.1 _ _ hR)) ?_ ?_
      · rintro j v J hv ⟨sJ, gs, hD, atg⟩
        obtain ⟨hj, q, u, rfl, hq, hu⟩ := item (at0.same sJ) hv
        have BJ := B3.same sJ
        refine ⟨q, _, rfl, SqT.of hq, rfl, _, _, rfl, _, _, rfl, rfl, rfl, ?_⟩
        refine ⟨_, rfl, u, _, rfl, .inl (SqL.of hu), fun c nc => ⟨_, rfl, (by show 2 ≤ sizeLine; decide), fun t nt => ?_⟩⟩
        have st : Same J (upd (upd J c (.lst (eqs[j].1.map nv))) t (.tup [.ref c, nv eqs[j].2.toNat])) := (same_upd nc).trans (same_upd nt)
        have ncD : c ≠ D := fun e => by rw [e, hD] at nc; cases nc
        have ntD : t ≠ D := fun e => by
          have h := (same_upd (o := .lst (eqs[j].1.map nv)) nc) _ _ hD
          rw [← e, nt] at h
          cases h
        have ncb : c ≠ b := BJ.nb nc
        have ntb : t ≠ b := (BJ.new nc).nb nt
        refine ⟨_, st _ _ hD, ?_, same_put (sJ.trans st) nD, gs ++ [t], ?_, ?_⟩
        · rw [List.length_map, atg.len, List.length_take]
          exact small1000 (by omega)
        · rw [upd_same, List.map_append]
          rfl
        · rw [List.take_succ_eq_append_getElem hj]
          exact ((atg.same st).snoc ncb ncD ntb ntD upd_same ((same_upd nt) _ _ upd_same)).put
      rintro H4 ⟨s4, gs, hD, atg⟩
      rw [lenq, List.take_length] at atg
      have B4 := B3.same s4
      have hR4 := s4 _ _ hR
      have at4 := at0.same s4
      have fewE : eqs.length ≤ 12 := len0
      have many : eqs.length * 9 ≤ 1000 := by omega
      dsimp only
      refine cut (t1 := tAsg _ (gName 6)) (fun σ H' => ∃ (t : Addr) (an : Nat ⊕ Nat), σ = [some (.ref a), some (.ref b), some (.int (0 + (i : Int))), some (.int (m : Int)), some (.ref R), some (.ref D), some (.ref t), none, none, none, none, none] ∧ Bag H' b l ∧ AnsAt H' t an ∧ RightA m eqs an ∧ EqA H' b D gs eqs ∧ H' D = some (.lst (gs.map V.ref)) ∧ EqsAt H' qs eqs ∧ H' R = some (.lst (qs.map V.ref))) ?tail ?head
      case head =>
        intro Nx hN
        refine ⟨_, rfl, b, l, 2, rfl, B4, by decide, by decide, fun H5 g k5 B5 g0 g1 => ⟨rfl, _, rfl, ?_⟩⟩
        have hD5 := k5 _ _ nDb hD
        have hR5 := k5 _ _ nRb hR4
        have at5 := eqs_keep at4 B4 k5
        have atg5 := atg.kp k5
        cases hz : decide (V.int g = V.int 0) with
        | true =>
          refine iteT ⟨_, rfl, _, rfl, rfl, rfl, m, D, _, false, gs, eqs, rfl, .inl (SqL.of hD5), atg5.eqs.g, by omega, by omega, inE, fun H6 t an s6 nt ans right told => hN _ _ ?_⟩
          exact ⟨t, an, rfl, B5.same s6, ans, right, atg5.same s6, s6 _ _ hD5, at5.same s6, s6 _ _ hR5⟩
        | false =>
          refine iteF ⟨_, rfl, D, _, rfl, hD5, fun T nT => ⟨_, rfl, rfl, rfl, m, T, _, false, gs, eqs, rfl, .inr (SqT.of upd_same), (atg5.eqs.same (same_upd nT)).g, by omega, by omega, inE, fun H6 t an s6 nt ans right told => hN _ _ ?_⟩⟩
          have s56 := (same_upd (o := .tup (gs.map V.ref)) nT).trans s6
          exact ⟨t, an, rfl, B5.same s56, ans, right, atg5.same s56, s56 _ _ hD5, at5.same s56, s56 _ _ hR5⟩
      case tail =>
        rintro σ H5 ⟨t, an, rfl, B5, ans, right, atg5, hD5, at5, hR5⟩
        obtain ⟨tb, ht, htb⟩ := id ans
        refine ⟨_, rfl, _, _, _, _, true, rfl, .ty "tuple", .base (.tup ht), kit_ty (by decide +kernel), _, rfl, ifF rfl ?_⟩
        refine ⟨_, rfl, _, rfl, _, rfl, R, m, t, qs, eqs, 9, an, rfl, SqL.of hR5, at5, by omega, by omega, many, short, inE, ans, right, fun H6 s6 => ⟨_, rfl, ifF rfl ?_⟩⟩
        refine ⟨_, rfl, _, rfl, .list (eqs.map dE), .list (eqs.map dE), .lst (SqL.of (s6 _ _ hD5)) (dp_eqs _ _ (atg5.same s6).eqs), .lst (SqL.of (s6 _ _ hR5)) (dp_eqs _ _ (at5.same s6)), shaped_E _, shaped_E _, _, rfl, ?_⟩
        rw [SeqAt.eqv_refl _ (SeqAt.canLay_of_shaped (shaped_E _))]
        refine ifF rfl ?_
        -- asked twice
        refine ⟨_, rfl, _, rfl, rfl, m, D, _, false, gs, eqs, rfl, .inl (SqL.of (s6 _ _ hD5)), (atg5.same s6).eqs.g, by omega, by omega, inE, fun H7 t1 a1 s7 nt1 ans1 right1 told1 => ?_⟩
        have s57 := s6.trans s7
        refine ⟨_, rfl, _, rfl, rfl, rfl, m, D, _, false, gs, eqs, rfl, .inl (SqL.of (s57 _ _ hD5)), (atg5.same s57).eqs.g, by omega, by omega, inE, fun H8 t2 a2 s8 nt2 ans2 right2 told2 => ?_⟩
        cases told1.one told2
        refine ⟨dA a1, dA a1, (ans1.same s8).dp, ans2.dp, shaped_A _, shaped_A _, _, rfl, ?_⟩
        rw [SeqAt.eqv_refl _ (SeqAt.canLay_of_shaped (shaped_A _))]
        refine ifF rfl ?_
        have s58 := s57.trans s8
        have B8 := B5.same s58
        have at8 := at5.same s58
        have hR8 := s58 _ _ hR5
        -- with tuples
        refine ⟨_, rfl, R, rfl, ⟨_, SqL.of hR8⟩, fun C nC => ?_⟩
        refine lc_list (K := K) (a := R) (xs := qs.map V.ref) (fun j J => Same H8 J ∧ ∃ ts : List Addr, J C = some (.lst (ts.map V.ref)) ∧ EqsG true J ts (eqs.take j)) ⟨same_upd nC, [], upd_same, ⟨rfl, fun i q e hq => by cases hq⟩⟩ (fun j J _ hv => SqL.of (hv.1 _ _ hR8)) ?_ ?_
        · rintro j v J hv ⟨sJ, ts, hC, att⟩
          obtain ⟨hj, q, u, rfl, hq, hu⟩ := item (at8.same sJ) hv
          refine ⟨q, _, rfl, SqT.of hq, rfl, _, _, rfl, _, _, rfl, rfl, rfl, ?_⟩
          refine ⟨_, rfl, u, _, rfl, hu, fun c nc => ⟨_, rfl, (by show 2 ≤ sizeLine; decide), fun t nt => ?_⟩⟩
          have st : Same J (upd (upd J c (.tup (eqs[j].1.map nv))) t (.tup [.ref c, nv eqs[j].2.toNat])) := (same_upd nc).trans (same_upd nt)
          have hC2 := st _ _ hC
          refine ⟨_, hC2, ?_, same_put (sJ.trans st) nC, ts ++ [t], ?_, ?_⟩
          · rw [List.length_map, att.len, List.length_take]
            exact small1000 (by omega)
          · rw [upd_same, List.map_append]
            rfl
          · rw [List.take_succ_eq_append_getElem hj]
            exact eqg_putL (eqg_snoc (att.same st) upd_same ((same_upd nt) _ _ upd_same)) hC2
        rintro H9 ⟨s9, ts, hC, att⟩
        rw [lenq, List.take_length] at att
        refine ⟨_, rfl, rfl, rfl, m, C, _, true, ts, eqs, rfl, .inl (SqL.of hC), att, by omega, by omega, inE, fun H10 t3 a3 s10 nt3 ans3 right3 told3 => ?_⟩
        obtain ⟨tb3, ht3, htb3⟩ := id ans3
        have s810 := s9.trans s10
        refine ⟨_, rfl, _, _, _, _, true, rfl, .ty "tuple", .base (.tup ht3), kit_ty (by decide +kernel), _, rfl, ifF rfl ?_⟩
        refine ⟨_, rfl, _, rfl, _, rfl, R, m, t3, qs, eqs, 9, a3, rfl, SqL.of (s810 _ _ hR8), at8.same s810, by omega, by omega, many, short, inE, ans3, right3, fun H11 s11 => ⟨_, rfl, ifF rfl ?_⟩⟩
        exact ⟨_, _, _, _, _, rfl, B8.same (s810.trans s11)⟩
    · rintro σ H1 ⟨y2, y3, y4, y5, y6, rfl, B1⟩
      -- values
      refine ⟨400, rfl, by decide, by decide, fun D nD => ?_⟩
      have nDb : D ≠ b := B1.nb nD
      have nDl : D ≠ l := B1.nl nD
      refine lc_range (lo := 0) (n := 400) (fun k J => Bag J b l ∧ ∃ bs : List Bool, J D = some (.lst (bs.map fun v => nv v.toNat)) ∧ bs.length = k) ⟨B1.new nD, [], upd_same, rfl⟩ ?_ ?_
      · rintro k J hk ⟨BJ, bs, hD, hlen⟩
        refine ⟨rfl, ?_⟩
        refine ⟨_, rfl, b, l, 2, rfl, BJ, by decide, by decide, fun J2 g k2 BJ2 g0 g1 => ?_⟩
        obtain ⟨v, ev⟩ := bit_of g0 g1
        refine ⟨_, k2 _ _ nDb hD, by rw [List.length_map, hlen]; exact small1000 (by omega), BJ2.put nDb nDl, bs ++ [v], ?_, by rw [List.length_append, hlen]; rfl⟩
        rw [upd_same, List.map_append, ev]
        rfl
      rintro H2 ⟨B2, bs, hD, hlen⟩
      -- ring
      refine ⟨400, rfl, by decide, by decide, fun R nR => ?_⟩
      have nRb : R ≠ b := B2.nb nR
      refine lc_range (lo := 0) (n := 400) (fun k J => Same H2 J ∧ ∃ gs : List Addr, J R = some (.lst (gs.map V.ref)) ∧ EqA J b R gs (ringE bs k)) ⟨same_upd nR, [], upd_same, ⟨rfl, fun i q e hq => by cases hq⟩⟩ ?_ ?_
      · rintro k J hk ⟨sJ, gs, hR, atg⟩
        have BJ := B2.same sJ
        have e1 : V.int ((0 : Int) + (k : Int)) = nv k := congrArg V.int (by omega)
        have e2 : V.int (((0 : Int) + (k : Int) + 1) % 400) = nv ((k + 1) % 400) := congrArg V.int (by omega)
        have hkb : k < bs.length := by rw [hlen]; exact hk
        have ix : atI (bs.map fun v => nv v.toNat) ((0 : Int) + (k : Int)) = some (nv (bs.getD k false).toNat) := by
          rw [Int.zero_add]
          refine atI_nat ?_
          rw [List.getElem?_map, List.getElem?_eq_getElem hkb, List.getD_eq_getElem?_getD, List.getElem?_eq_getElem hkb]
          rfl
        refine ⟨rfl, ?_⟩
        refine ⟨_, rfl, _, rfl, _, _, rfl, rfl, _, _, rfl, rfl, (by dsimp only; decide), (by show 2 ≤ sizeLine; decide), fun c nc => ?_⟩
        dsimp only
        rw [e2]
        refine ⟨_, rfl, _, rfl, D, _, _, _, rfl, rfl, SqL.of ((same_upd nc) _ _ (sJ _ _ hD)), ix, (by show 2 ≤ sizeLine; decide), fun t nt => ?_⟩
        rw [e1] at nt ⊢
        have st : Same J (upd (upd J c (.lst [nv k, nv ((k + 1) % 400)])) t (.tup [.ref c, nv (bs.getD k false).toNat])) := (same_upd nc).trans (same_upd nt)
        have ncR : c ≠ R := fun e => by rw [e, hR] at nc; cases nc
        have ntR : t ≠ R := fun e => by
          have h := (same_upd (o := .lst [nv k, nv ((k + 1) % 400)]) nc) _ _ hR
          rw [← e, nt] at h
          cases h
        refine ⟨_, st _ _ hR, ?_, same_put (sJ.trans st) nR, gs ++ [t], ?_, ?_⟩
        · rw [List.length_map, atg.len, ring_len]
          exact small1000 (by omega)
        · rw [upd_same, List.map_append]
          rfl
        · rw [ring_succ]
          exact ((atg.same st).snoc (BJ.nb nc) ncR ((BJ.new nc).nb nt) ntR upd_same ((same_upd nt) _ _ upd_same)).put
      rintro H3 ⟨s3, gs, hR, atg⟩
      have at3 := atg.eqs
      have glen : gs.length = 400 := by rw [at3.len, ring_len]
      -- the two rings
      refine ⟨_, rfl, _, rfl, 399, rfl, R, _, rfl, SqL.of hR, fun p np => ⟨(by show 2 ≤ sizeLine; decide), fun L nL => ?_⟩⟩
      have cutE : cutV (gs.map V.ref) none (some 399) = (gs.take 399).map V.ref := by
        have h := cutV_take (gs.map V.ref) 399
        rw [List.map_take]
        exact h
      rw [cutE] at nL ⊢
      have s4 : Same H3 (upd (upd H3 p (.lst ((gs.take 399).map V.ref))) L (.lst [.ref R, .ref p])) := (same_upd np).trans (same_upd nL)
      have hL : (upd (upd H3 p (.lst ((gs.take 399).map V.ref))) L (.lst [.ref R, .ref p])) L = some (.lst [.ref R, .ref p]) := upd_same
      have hp : (upd (upd H3 p (.lst ((gs.take 399).map V.ref))) L (.lst [.ref R, .ref p])) p = some (.lst ((gs.take 399).map V.ref)) := (same_upd nL) _ _ upd_same
      generalize upd (upd H3 p (.lst ((gs.take 399).map V.ref))) L (.lst [.ref R, .ref p]) = H4 at s4 hL hp ⊢
      refine ⟨L, rfl, ⟨_, SqL.of hL⟩, ?_⟩
      refine for_it (walk_list (xs := [.ref R, .ref p])) (fun j σ J => ∃ z4 z6 : Option V, σ = [some (.ref a), some (.ref b), y2, y3, z4, y5, z6, some (.ref D), some (.ref R), none, none, none] ∧ Same H4 J) ⟨y4, y6, rfl, Same.refl _⟩ (fun j σ J _ ⟨_, _, _, sJ⟩ => SqL.of (sJ _ _ hL)) ?_ ?_
      · rintro j v σ J J' hj ⟨z4, z6, rfl, sJ⟩ ⟨rfl, hv⟩
        have which : ∃ (r : Addr) (gs' : List Addr) (eqs' : List (List Nat × Bool)), v = .ref r ∧ H4 r = some (.lst (gs'.map V.ref)) ∧ EqsAt H4 gs' eqs' ∧ eqs'.length ≤ 400 ∧ (∀ e ∈ eqs', e.1.length ≤ 2) ∧ (∀ e ∈ eqs', ∀ z ∈ e.1, z < 400) := by
          match j, hv with
          | 0, hv =>
            cases hv
            exact ⟨R, gs, ringE bs 400, rfl, s4 _ _ hR, at3.same s4, by rw [ring_len]; exact Nat.le_refl _, fun e he => (ring_in (Nat.le_refl _) he).1, fun e he => (ring_in (Nat.le_refl _) he).2⟩
          | 1, hv =>
            cases hv
            refine ⟨p, gs.take 399, (ringE bs 400).take 399, rfl, hp, (eqs_take at3 399).same s4, ?_, fun e he => (ring_in (Nat.le_refl _) (List.mem_of_mem_take he)).1, fun e he => (ring_in (Nat.le_refl _) (List.mem_of_mem_take he)).2⟩
            rw [List.length_take, ring_len]
            omega
        obtain ⟨r, gs', eqs', rfl, hr', at', few', short', in'⟩ := which
        refine ⟨_, rfl, rfl, rfl, 400, r, _, false, gs', eqs', rfl, .inl (SqL.of (sJ _ _ hr')), (at'.same sJ).g, few', by decide, in', fun J2 t an s2 nt ans right told => ?_⟩
        obtain ⟨tb, ht, htb⟩ := id ans
        have sJ2 := sJ.trans s2
        refine ⟨_, rfl, _, _, _, _, true, rfl, .ty "tuple", .base (.tup ht), kit_ty (by decide +kernel), _, rfl, ifF rfl ?_⟩
        refine ⟨_, rfl, _, rfl, r, 400, t, gs', eqs', 2, an, rfl, SqL.of (sJ2 _ _ hr'), at'.same sJ2, by decide, few', by omega, short', in', ans, right, fun J3 s5 => ⟨_, rfl, ifF rfl ?_⟩⟩
        exact ⟨_, _, rfl, sJ2.trans s5⟩
      · rintro σ J ⟨z4, z6, rfl, sJ⟩
        -- two small ones
        refine ⟨Nat.zero_le _, fun e0 ne0 => ⟨rfl, rfl, 0, e0, _, false, [], [], rfl, .inl (SqL.of upd_same), ⟨rfl, fun i q e hq => by cases hq⟩, by decide, by decide, fun e he => absurd he List.not_mem_nil, fun J1 t1 a1 s1 nt1 ans1 _ told1 => ?_⟩⟩
        cases told1.one told_none
        refine ⟨Nat.zero_le _, fun e1 ne1 => ⟨(by show 2 ≤ sizeLine; decide), fun q1 nq1 => ⟨(by show 1 ≤ sizeLine; decide), fun l1 nl1 => ⟨rfl, rfl, 3, l1, _, false, [q1], [([], true)], rfl, .inl (SqL.of upd_same), ⟨rfl, fun i q e hq he => ?_⟩, by decide, by decide, ?_, fun J2 t2 a2 s2 nt2 ans2 _ told2 => ?_⟩⟩⟩⟩
        · match i, hq, he with
          | 0, hq, he =>
            cases hq
            cases he
            exact ⟨e1, (same_upd nl1) _ _ upd_same, (same_upd nl1) _ _ ((same_upd nq1) _ _ upd_same)⟩
        · intro e he z hz
          rw [List.mem_singleton.mp he] at hz
          cases hz
        cases told2.one told_one
        have s12 : Same J1 J2 := ((same_upd ne1).trans ((same_upd nq1).trans (same_upd nl1))).trans s2
        have ans12 := ans1.same s12
        refine ⟨(by show 2 ≤ sizeLine; decide), fun X nX => ?_⟩
        refine ⟨Nat.zero_le _, fun e2 ne2 => ⟨(by show 2 ≤ sizeLine; decide), fun d1 nd1 => ⟨(by show 1 ≤ sizeLine; decide), fun e3 ne3 => ⟨(by show 2 ≤ sizeLine; decide), fun d2 nd2 => ⟨(by show 2 ≤ sizeLine; decide), fun Y nY => ?_⟩⟩⟩⟩⟩
        have u5 := same_upd (o := .lst [.ref d1, .ref d2]) nY
        have u4 := (same_upd (o := .tup [.str sCon, .ref e3]) nd2).trans u5
        have u3 := (same_upd (o := .lst [.int 0]) ne3).trans u4
        have u2 := (same_upd (o := .tup [.str sSol, .ref e2]) nd1).trans u3
        have u1 := (same_upd (o := .lst []) ne2).trans u2
        have u0 := (same_upd (o := .lst [.ref t1, .ref t2]) nX).trans u1
        obtain ⟨b1, ht1, hb1⟩ := ans12.same u0
        obtain ⟨b2, ht2, hb2⟩ := ans2.same u0
        refine ⟨_, _, rfl, .lst (u1 _ _ upd_same) upd_same rfl (by show 2 ≤ 10000; decide) (fun i x y hx hy => ?_), fun J5 s5 => qq _⟩
        match i, hx, hy with
        | 0, hx, hy =>
          cases hx
          cases hy
          refine .tup ht1 (u3 _ _ upd_same) rfl (by show 2 ≤ 10000; decide) fun i x y hx hy => ?_
          match i, hx, hy with
          | 0, hx, hy => cases hx; cases hy; exact .str _ _
          | 1, hx, hy =>
            cases hx
            cases hy
            exact .lst hb1 (u2 _ _ upd_same) rfl (by show 0 ≤ 10000; decide) fun i x y hx hy => by cases hy
        | 1, hx, hy =>
          cases hx
          cases hy
          refine .tup ht2 (u5 _ _ upd_same) rfl (by show 2 ≤ 10000; decide) fun i x y hx hy => ?_
          match i, hx, hy with
          | 0, hx, hy => cases hx; cases hy; exact .str _ _
          | 1, hx, hy =>
            cases hx
            cases hy
            refine .lst hb2 (u4 _ _ upd_same) rfl (by show 1 ≤ 10000; decide) fun i x y hx hy => ?_
            match i, hx, hy with
            | 0, hx, hy => cases hx; cases hy; exact .int _ _
end


end T40

namespace T40
open PySem PySem.Spec PyProof.Rows L2 Tm
theorem all_mk {l : PySem.W.OpenLaw} {w : World} {K : PySem.W.Frag} {h : Heap} {mg : Str → Option Value} {fa f1 f2 f3 f4 f5 f6 f7 f8 f9 f10 f11 f12 f13 f14 : Addr} (X : K.In h) (G : h.Ns mainGlobals mg) (hfa : mg "law" = some (.ref fa))
     {od1 od2 od3 od4 od5 od6 od7 od8 od9 od10 od11 od12 od13 od14 an1 an2 an3 an4 an5 an6 an7 an8 an9 an10 an11 an12 an13 an14 : Option Addr} {sl1 sl2 sl3 sl4 sl5 sl6 sl7 sl8 sl9 sl10 sl11 sl12 sl13 sl14 : Array (Option Value)} {oc1 oc2 oc3 oc4 oc5 oc6 oc7 oc8 oc9 oc10 oc11 oc12 oc13 oc14 kV1 kV2 kV3 kV4 kV5 kV6 kV7 kV8 kV9 kV10 kV11 kV12 kV13 kV14 dc1 dc2 dc3 dc4 dc5 dc6 dc7 dc8 dc9 dc10 dc11 dc12 dc13 dc14 pm1 pm2 pm3 pm4 pm5 pm6 pm7 pm8 pm9 pm10 pm11 pm12 pm13 pm14 cd1 cd2 cd3 cd4 cd5 cd6 cd7 cd8 cd9 cd10 cd11 cd12 cd13 cd14 ct1 ct2 ct3 ct4 ct5 ct6 ct7 ct8 ct9 ct10 ct11 ct12 ct13 ct14 : Value}
    (a1 : PySem.W.nsIn K mainGlobals "bits_of" = some (some (.ref f1))) (l1 : K.lookup f1 = some ⟨oc1, od1, .func (PySem.W.fnOf "bits_of" "bits_of" (defArgs sBits) (defBody sBits) (defScope sBits) .none kV1 dc1 pm1 an1 cd1 ct1), sl1⟩) (c1 : PySem.W.codeIn K cd1 "bits_of" = true) (k1 : PySem.W.keepIn K (.ref f1) = true)
    (a2 : PySem.W.nsIn K mainGlobals "number_with" = some (some (.ref f2))) (l2 : K.lookup f2 = some ⟨oc2, od2, .func (PySem.W.fnOf "number_with" "number_with" (defArgs sNumW) (defBody sNumW) (defScope sNumW) .none kV2 dc2 pm2 an2 cd2 ct2), sl2⟩) (c2 : PySem.W.codeIn K cd2 "number_with" = true) (k2 : PySem.W.keepIn K (.ref f2) = true)
    (a3 : PySem.W.nsIn K mainGlobals "row_without_tops" = some (some (.ref f3))) (l3 : K.lookup f3 = some ⟨oc3, od3, .func (PySem.W.fnOf "row_without_tops" "row_without_tops" (defArgs sTops) (defBody sTops) (defScope sTops) .none kV3 dc3 pm3 an3 cd3 ct3), sl3⟩) (c3 : PySem.W.codeIn K cd3 "row_without_tops" = true) (k3 : PySem.W.keepIn K (.ref f3) = true)
    (a4 : PySem.W.nsIn K mainGlobals "ones_of" = some (some (.ref f4))) (l4 : K.lookup f4 = some ⟨oc4, od4, .func (PySem.W.fnOf "ones_of" "ones_of" (defArgs sOnes) (defBody sOnes) (defScope sOnes) .none kV4 dc4 pm4 an4 cd4 ct4), sl4⟩) (c4 : PySem.W.codeIn K cd4 "ones_of" = true) (k4 : PySem.W.keepIn K (.ref f4) = true)
    (a5 : PySem.W.nsIn K mainGlobals "solve" = some (some (.ref f5))) (l5 : K.lookup f5 = some ⟨oc5, od5, .func (PySem.W.fnOf "solve" "solve" (defArgs sSolve) (defBody sSolve) (defScope sSolve) .none kV5 dc5 pm5 an5 cd5 ct5), sl5⟩) (c5 : PySem.W.codeIn K cd5 "solve" = true) (k5 : PySem.W.keepIn K (.ref f5) = true)
    (a6 : PySem.W.nsIn K mainGlobals "_law_bag" = some (some (.ref f6))) (l6 : K.lookup f6 = some ⟨oc6, od6, .func (PySem.W.fnOf "_law_bag" "_law_bag" (defArgs sBag) (defBody sBag) (defScope sBag) .none kV6 dc6 pm6 an6 cd6 ct6), sl6⟩) (c6 : PySem.W.codeIn K cd6 "_law_bag" = true) (k6 : PySem.W.keepIn K (.ref f6) = true)
    (a7 : PySem.W.nsIn K mainGlobals "_law_pull" = some (some (.ref f7))) (l7 : K.lookup f7 = some ⟨oc7, od7, .func (PySem.W.fnOf "_law_pull" "_law_pull" (defArgs sPull) (defBody sPull) (defScope sPull) .none kV7 dc7 pm7 an7 cd7 ct7), sl7⟩) (c7 : PySem.W.codeIn K cd7 "_law_pull" = true) (k7 : PySem.W.keepIn K (.ref f7) = true)
    (a8 : PySem.W.nsIn K mainGlobals "_law_of" = some (some (.ref f8))) (l8 : K.lookup f8 = some ⟨oc8, od8, .func (PySem.W.fnOf "_law_of" "_law_of" (defArgs sOf) (defBody sOf) (defScope sOf) .none kV8 dc8 pm8 an8 cd8 ct8), sl8⟩) (c8 : PySem.W.codeIn K cd8 "_law_of" = true) (k8 : PySem.W.keepIn K (.ref f8) = true)
    (a9 : PySem.W.nsIn K mainGlobals "_law_mixed" = some (some (.ref f9))) (l9 : K.lookup f9 = some ⟨oc9, od9, .func (PySem.W.fnOf "_law_mixed" "_law_mixed" (defArgs sMixed) (defBody sMixed) (defScope sMixed) .none kV9 dc9 pm9 an9 cd9 ct9), sl9⟩) (c9 : PySem.W.codeIn K cd9 "_law_mixed" = true) (k9 : PySem.W.keepIn K (.ref f9) = true)
    (a10 : PySem.W.nsIn K mainGlobals "_law_sum" = some (some (.ref f10))) (l10 : K.lookup f10 = some ⟨oc10, od10, .func (PySem.W.fnOf "_law_sum" "_law_sum" (defArgs sLSum) (defBody sLSum) (defScope sLSum) .none kV10 dc10 pm10 an10 cd10 ct10), sl10⟩) (c10 : PySem.W.codeIn K cd10 "_law_sum" = true) (k10 : PySem.W.keepIn K (.ref f10) = true)
    (a11 : PySem.W.nsIn K mainGlobals "_law_equations" = some (some (.ref f11))) (l11 : K.lookup f11 = some ⟨oc11, od11, .func (PySem.W.fnOf "_law_equations" "_law_equations" (defArgs sEqs) (defBody sEqs) (defScope sEqs) .none kV11 dc11 pm11 an11 cd11 ct11), sl11⟩) (c11 : PySem.W.codeIn K cd11 "_law_equations" = true) (k11 : PySem.W.keepIn K (.ref f11) = true)
    (a12 : PySem.W.nsIn K mainGlobals "_law_solves" = some (some (.ref f12))) (l12 : K.lookup f12 = some ⟨oc12, od12, .func (PySem.W.fnOf "_law_solves" "_law_solves" (defArgs sSv) (defBody sSv) (defScope sSv) .none kV12 dc12 pm12 an12 cd12 ct12), sl12⟩) (c12 : PySem.W.codeIn K cd12 "_law_solves" = true) (k12 : PySem.W.keepIn K (.ref f12) = true)
    (a13 : PySem.W.nsIn K mainGlobals "_law_same" = some (some (.ref f13))) (l13 : K.lookup f13 = some ⟨oc13, od13, .func (PySem.W.fnOf "_law_same" "_law_same" (defArgs sSame) (defBody sSame) (defScope sSame) .none kV13 dc13 pm13 an13 cd13 ct13), sl13⟩) (c13 : PySem.W.codeIn K cd13 "_law_same" = true) (k13 : PySem.W.keepIn K (.ref f13) = true)
    (a14 : PySem.W.nsIn K mainGlobals "law" = some (some (.ref f14))) (l14 : K.lookup f14 = some ⟨oc14, od14, .func (PySem.W.fnOf "law" "law" (defArgs sLaw) (defBody sLaw) (defScope sLaw) .none kV14 dc14 pm14 an14 cd14 ct14), sl14⟩) (c14 : PySem.W.codeIn K cd14 "law" = true) (k14 : PySem.W.keepIn K (.ref f14) = true)
    (z1 : PySem.W.nsIn K mainGlobals "isinstance" = some none)    (z2 : PySem.W.nsIn K mainGlobals "dict" = some none)    (z3 : PySem.W.nsIn K mainGlobals "list" = some none)    (z4 : PySem.W.nsIn K mainGlobals "tuple" = some none)
    (z5 : PySem.W.nsIn K mainGlobals "bool" = some none)    (z6 : PySem.W.nsIn K mainGlobals "int" = some none)    (z7 : PySem.W.nsIn K mainGlobals "str" = some none)    (z8 : PySem.W.nsIn K mainGlobals "len" = some none)
    (z9 : PySem.W.nsIn K mainGlobals "all" = some none)    (z10 : PySem.W.nsIn K mainGlobals "zip" = some none)    (z11 : PySem.W.nsIn K mainGlobals "sorted" = some none)    (z12 : PySem.W.nsIn K mainGlobals "set" = some none)
    (z13 : PySem.W.nsIn K mainGlobals "sum" = some none)    (z14 : PySem.W.nsIn K mainGlobals "enumerate" = some none)    (z15 : PySem.W.nsIn K mainGlobals "range" = some none) :
    ∃ fd : FuncData, (∀ (s : Shared) (v : Value), BindsTo s fd ⟨[v], []⟩ [("_law_script", v)]) ∧ ∀ base : Heap, K.In base → base.Ns mainGlobals mg → FnOk l.prog w K mg base CX0 5 fa fd ["_law_script"] (spLaw K) := by
  have e := hfa.symm.trans (PySem.W.mg_of X G a14)
  cases e
  have F1 := fun_mk (st := sBits) l1 c1 k1
  have b1 := F1.binds (ps := ["number"]) fun _ _ _ _ _ _ us hl => match us, hl with | [_], _ => rfl
  have g1 := PySem.W.mg_of X G a1
  have F2 := fun_mk (st := sNumW) l2 c2 k2
  have b2 := F2.binds (ps := ["places"]) fun _ _ _ _ _ _ us hl => match us, hl with | [_], _ => rfl
  have g2 := PySem.W.mg_of X G a2
  have F3 := fun_mk (st := sTops) l3 c3 k3
  have b3 := F3.binds (ps := ["row", "rows"]) fun _ _ _ _ _ _ us hl => match us, hl with | [_, _], _ => rfl
  have g3 := PySem.W.mg_of X G a3
  have F4 := fun_mk (st := sOnes) l4 c4 k4
  have b4 := F4.binds (ps := ["rows"]) fun _ _ _ _ _ _ us hl => match us, hl with | [_], _ => rfl
  have g4 := PySem.W.mg_of X G a4
  have F5 := fun_mk (st := sSolve) l5 c5 k5
  have b5 : KBn K (PySem.W.fnOf "solve" "solve" (defArgs sSolve) (defBody sSolve) (defScope sSolve) .none kV5 dc5 pm5 an5 cd5 ct5) ["equations", "count"] 1 ["count"] (fun us ws => us ++ ws) (fun vs zs => vs ++ zs) := ⟨fun s us ws _ l1 l2 => match us, ws, l1, l2 with | [u], [v], _, _ => .of_eq rfl, fun r1 r2 => r1.append r2⟩
  have c0 : KBn K (PySem.W.fnOf "solve" "solve" (defArgs sSolve) (defBody sSolve) (defScope sSolve) .none kV5 dc5 pm5 an5 cd5 ct5) ["equations", "count"] 0 ["count", "equations"] (fun us ws => us ++ back2 ws) (fun vs zs => vs ++ back2 zs) := ⟨fun s us ws _ l1 l2 => match us, ws, l1, l2 with | [], [u, v], _, _ => .of_eq rfl, fun r1 r2 => r1.append (match r2 with | .nil => .nil | .cons _ .nil => .nil | .cons h1 (.cons h2 .nil) => .cons h2 (.cons h1 .nil) | .cons _ (.cons _ (.cons _ _)) => .nil)⟩
  have g5 := PySem.W.mg_of X G a5
  have F6 := fun_mk (st := sBag) l6 c6 k6
  have b6 := F6.binds (ps := ["_law_script"]) fun _ _ _ _ _ _ us hl => match us, hl with | [_], _ => rfl
  have g6 := PySem.W.mg_of X G a6
  have F7 := fun_mk (st := sPull) l7 c7 k7
  have b7 := F7.binds (ps := ["_law_bag_here", "_law_many"]) fun _ _ _ _ _ _ us hl => match us, hl with | [_, _], _ => rfl
  have g7 := PySem.W.mg_of X G a7
  have F8 := fun_mk (st := sOf) l8 c8 k8
  have b8 := F8.binds (ps := ["_law_bag_here", "_law_things"]) fun _ _ _ _ _ _ us hl => match us, hl with | [_, _], _ => rfl
  have g8 := PySem.W.mg_of X G a8
  have F9 := fun_mk (st := sMixed) l9 c9 k9
  have b9 := F9.binds (ps := ["_law_bag_here", "_law_things"]) fun _ _ _ _ _ _ us hl => match us, hl with | [_, _], _ => rfl
  have g9 := PySem.W.mg_of X G a9
  have F10 := fun_mk (st := sLSum) l10 c10 k10
  have b10 := F10.binds (ps := ["_law_rows"]) fun _ _ _ _ _ _ us hl => match us, hl with | [_], _ => rfl
  have g10 := PySem.W.mg_of X G a10
  have F11 := fun_mk (st := sEqs) l11 c11 k11
  have b11 := F11.binds (ps := ["_law_bag_here", "_law_mcount"]) fun _ _ _ _ _ _ us hl => match us, hl with | [_, _], _ => rfl
  have g11 := PySem.W.mg_of X G a11
  have F12 := fun_mk (st := sSv) l12 c12 k12
  have b12 := F12.binds (ps := ["_law_rows", "_law_mcount", "_law_answer"]) fun _ _ _ _ _ _ us hl => match us, hl with | [_, _, _], _ => rfl
  have g12 := PySem.W.mg_of X G a12
  have F13 := fun_mk (st := sSame) l13 c13 k13
  have b13 := F13.binds (ps := ["_law_found", "_law_due"]) fun _ _ _ _ _ _ us hl => match us, hl with | [_, _], _ => rfl
  have g13 := PySem.W.mg_of X G a13
  have F14 := fun_mk (st := sLaw) l14 c14 k14
  have m_isinstance := PySem.W.mg_none_of X G z1
  have m_dict := PySem.W.mg_none_of X G z2
  have m_list := PySem.W.mg_none_of X G z3
  have m_tuple := PySem.W.mg_none_of X G z4
  have m_bool := PySem.W.mg_none_of X G z5
  have m_int := PySem.W.mg_none_of X G z6
  have m_str := PySem.W.mg_none_of X G z7
  have m_len := PySem.W.mg_none_of X G z8
  have m_all := PySem.W.mg_none_of X G z9
  have m_zip := PySem.W.mg_none_of X G z10
  have m_sorted := PySem.W.mg_none_of X G z11
  have m_set := PySem.W.mg_none_of X G z12
  have m_sum := PySem.W.mg_none_of X G z13
  have m_enumerate := PySem.W.mg_none_of X G z14
  have m_range := PySem.W.mg_none_of X G z15
  exact ⟨PySem.W.fnOf "law" "law" (defArgs sLaw) (defBody sLaw) (defScope sLaw) .none kV14 dc14 pm14 an14 cd14 ct14, fun s v => .of_eq rfl, fun base _ _ => ok_law F14 F1 b1 g1 F2 b2 g2 F3 b3 g3 F4 b4 g4 F5 b5 c0 g5 F6 b6 g6 F7 b7 g7 F8 b8 g8 F9 b9 g9 F10 b10 g10 F11 b11 g11 F12 b12 g12 F13 b13 g13 ⟨m_isinstance, m_dict, m_list, m_tuple, m_bool, m_int, m_str, m_len, m_all, m_zip⟩ m_sorted m_set m_sum m_enumerate m_range⟩


end T40

open PySem PySem.W PyProof.Rows in
set_option maxRecDepth 100000 in
set_option maxHeartbeats 0 in
theorem PySem.Challenge.cw_threadmark_k40_equations_modulo_two_holds : PySem.Challenge.rw_threadmark_k40_equations_modulo_two.Holds := by
  w_on; o_law; k_head; (case hw => w_witness2)
  k_fill
  refine L2.walk_of (l := PySem.Challenge.rw_threadmark_k40_equations_modulo_two) (n := 63) (k := 5) (x := "_law_script") (CX := fun _ => L2.CX0) (sp := fun w => Tm.spLaw _) rfl (by decide) rfl ⟨rfl, by decide, by decide⟩ (fun w h Y => PySem.W.kIn_of Y) ?F (fun _ _ a ns hl _ hS => ⟨a, ns, rfl, hS, hl, fun _ => rfl⟩) (fun _ _ _ _ _ h => h)
  case F =>
    intro w mg fa h KX G hmg
    refine' T40.all_mk KX G hmg ?a1 ?l1 ?c1 ?k1 ?a2 ?l2 ?c2 ?k2 ?a3 ?l3 ?c3 ?k3 ?a4 ?l4 ?c4 ?k4 ?a5 ?l5 ?c5 ?k5 ?a6 ?l6 ?c6 ?k6 ?a7 ?l7 ?c7 ?k7 ?a8 ?l8 ?c8 ?k8 ?a9 ?l9 ?c9 ?k9 ?a10 ?l10 ?c10 ?k10 ?a11 ?l11 ?c11 ?k11 ?a12 ?l12 ?c12 ?k12 ?a13 ?l13 ?c13 ?k13 ?a14 ?l14 ?c14 ?k14 ?z1 ?z2 ?z3 ?z4 ?z5 ?z6 ?z7 ?z8 ?z9 ?z10 ?z11 ?z12 ?z13 ?z14 ?z15
    (case a1 => k_is)
    (case l1 => k_is)
    (case c1 => k_is)
    (case k1 => k_is)
    (case a2 => k_is)
    (case l2 => k_is)
    (case c2 => k_is)
    (case k2 => k_is)
    (case a3 => k_is)
    (case l3 => k_is)
    (case c3 => k_is)
    (case k3 => k_is)
    (case a4 => k_is)
    (case l4 => k_is)
    (case c4 => k_is)
    (case k4 => k_is)
    (case a5 => k_is)
    (case l5 => k_is)
    (case c5 => k_is)
    (case k5 => k_is)
    (case a6 => k_is)
    (case l6 => k_is)
    (case c6 => k_is)
    (case k6 => k_is)
    (case a7 => k_is)
    (case l7 => k_is)
    (case c7 => k_is)
    (case k7 => k_is)
    (case a8 => k_is)
    (case l8 => k_is)
    (case c8 => k_is)
    (case k8 => k_is)
    (case a9 => k_is)
    (case l9 => k_is)
    (case c9 => k_is)
    (case k9 => k_is)
    (case a10 => k_is)
    (case l10 => k_is)
    (case c10 => k_is)
    (case k10 => k_is)
    (case a11 => k_is)
    (case l11 => k_is)
    (case c11 => k_is)
    (case k11 => k_is)
    (case a12 => k_is)
    (case l12 => k_is)
    (case c12 => k_is)
    (case k12 => k_is)
    (case a13 => k_is)
    (case l13 => k_is)
    (case c13 => k_is)
    (case k13 => k_is)
    (case a14 => k_is)
    (case l14 => k_is)
    (case c14 => k_is)
    (case k14 => k_is)
    (case z1 => k_is)
    (case z2 => k_is)
    (case z3 => k_is)
    (case z4 => k_is)
    (case z5 => k_is)
    (case z6 => k_is)
    (case z7 => k_is)
    (case z8 => k_is)
    (case z9 => k_is)
    (case z10 => k_is)
    (case z11 => k_is)
    (case z12 => k_is)
    (case z13 => k_is)
    (case z14 => k_is)
    (case z15 => k_is)

