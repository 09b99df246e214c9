import PyProof.Rows.All
import Wide.All
import OpenK.AllK
import Wide.FinOn
import HandS.ForMost
import HandS.Flow
import HandS.Style
import HandS.StrMore
import HandS.IsInst
import HandS.Zip
import HandS.Conv
import HandS.Walk
import PyProof.Rows.StrRev
import HandS.Star
import HandS.TryOnly
import KE.GoesNew
import KE.GoesMore
import HandS.SetBool
import HandS.Strs
import KE.GoesComp
import HandS.More
import HandS.TupAny
import PyProof.StrBlock2
import PyProof.Rows.StrCountLaw
import PyProof.DictTable
import PySem.Challenge.RW_threadmark_k21_products_of_strings
set_option Elab.async false
set_option linter.all false
set_option maxRecDepth 100000
/-! The part that every law of this program shares: heaps, the bag, a few rules. -/
namespace Tm
open PySem PySem.Spec PyProof.Rows L2

/-! ### heaps: all but the object at b is as it was -/
def Kp (b : Addr) (H H' : Hp) : Prop := ∀ p o, p ≠ b → H p = some o → H' p = some o
theorem Kp.refl (b : Addr) (H : Hp) : Kp b H H := fun _ _ _ h => h
theorem Kp.trans {b : Addr} {H H1 H2 : Hp} (x : Kp b H H1) (y : Kp b H1 H2) : Kp b H H2 := fun p o n h => y p o n (x p o n h)
theorem Kp.of_same {b : Addr} {H H' : Hp} (s : Same H H') : Kp b H H' := fun p o _ h => s p o h
theorem Kp.set {b : Addr} {H : Hp} {o : HO} : Kp b H (upd H b o) := fun p u n h => by rw [upd_ne n]; exact h
theorem Kp.new {b q : Addr} {H : Hp} {o : HO} (h : H q = none) : Kp b H (upd H q o) := fun p u _ e => by
  rw [upd_ne (ne_of_none e h)]; exact e
/-- a store to an object that was not there at the start -/
theorem Kp.put {b q : Addr} {H H' : Hp} {o : HO} (k : Kp b H H') (h : H q = none) : Kp b H (upd H' q o) := fun p u n e => by
  rw [upd_ne (ne_of_none e h)]; exact k p u n e
theorem same_upd {H : Hp} {p : Addr} {o : HO} (h : H p = none) : Same H (upd H p o) := fun b x e => by
  rw [upd_ne (ne_of_none e h)]; exact e
theorem same_put {q : Addr} {H H' : Hp} {o : HO} (k : Same H H') (h : H q = none) : Same H (upd H' q o) := fun p u e => by
  rw [upd_ne (ne_of_none e h)]; exact k p u e
theorem Kp.free {b : Addr} {H H' : Hp} (e : Kp b H H') {l : Addr} (hb : ∃ o, H' b = some o) (h : H' l = none) : H l = none := by
  obtain ⟨o, hb⟩ := hb
  have n : l ≠ b := fun z => by rw [z, hb] at h; cases h
  cases q : H l with
  | none => rfl
  | some o => rw [e l o n q] at h; cases h
theorem Kp.seq {K : PySem.W.Frag} {b : Addr} {H H' : Hp} {a : Addr} {xs : List V} (e : Kp b H H') (n : a ≠ b) (h : SqL K H a xs) : SqL K H' a xs :=
  h.imp (fun seen => seen.imp (e a _ n) (fun ⟨ob, at_a⟩ => ⟨ob, e a _ n at_a⟩)) id

/-! ### the bag of the draws -/
def Bag (H : Hp) (b l : Addr) : Prop := ∃ (xs : List Int) (i n s : Int), H b = some (.lst [.ref l, .int i, .int n, .int s]) ∧ H l = some (.lst (xs.map V.int)) ∧ 0 ≤ i ∧ 0 ≤ n ∧ 0 ≤ s ∧ s < 2147483549
theorem bag_ne {H : Hp} {b l : Addr} {xs : List Int} {u v w : V} {a : Addr} (h : H b = some (.lst [.ref a, u, v, w])) (hl : H l = some (.lst (xs.map V.int))) : l ≠ b := ne_of hl h (by
  intro e
  have e2 := HO.lst.inj e
  cases xs with
  | nil => cases e2
  | cons x r => cases e2)
theorem Bag.hb {H : Hp} {b l : Addr} (B : Bag H b l) : ∃ o, H b = some o := by
  obtain ⟨xs, i, n, s, h, _⟩ := B
  exact ⟨_, h⟩
theorem Bag.hl {H : Hp} {b l : Addr} (B : Bag H b l) : ∃ o, H l = some o := by
  obtain ⟨xs, i, n, s, _, h, _⟩ := B
  exact ⟨_, h⟩
theorem Bag.nb {H : Hp} {b l q : Addr} (B : Bag H b l) (h : H q = none) : q ≠ b := fun e => by
  obtain ⟨o, hb⟩ := B.hb
  rw [e, hb] at h; cases h
theorem Bag.nl {H : Hp} {b l q : Addr} (B : Bag H b l) (h : H q = none) : q ≠ l := fun e => by
  obtain ⟨o, hb⟩ := B.hl
  rw [e, hb] at h; cases h
/-- a store elsewhere -/
theorem Bag.put {H : Hp} {b l q : Addr} {o : HO} (B : Bag H b l) (n1 : q ≠ b) (n2 : q ≠ l) : Bag (upd H q o) b l := by
  obtain ⟨xs, i, n, s, hb, hl, r⟩ := B
  exact ⟨xs, i, n, s, by rw [upd_ne n1.symm]; exact hb, by rw [upd_ne n2.symm]; exact hl, r⟩
theorem Bag.new {H : Hp} {b l q : Addr} {o : HO} (B : Bag H b l) (h : H q = none) : Bag (upd H q o) b l := B.put (B.nb h) (B.nl h)
theorem Bag.same {H H' : Hp} {b l : Addr} (B : Bag H b l) (k : Same H H') : Bag H' b l := by
  obtain ⟨xs, i, n, s, hb, hl, r⟩ := B
  exact ⟨xs, i, n, s, k _ _ hb, k _ _ hl, r⟩

/-! ### list(text) -/
def sig (c : Nat) : V := .str ⟨#[c]⟩
/-- two lists, place by place -/
theorem placewise {α β : Type} {R : α → β → Prop} : ∀ (as : List α) (bs : List β), as.length = bs.length → (∀ (j : Nat) (a : α) (b : β), as[j]? = some a → bs[j]? = some b → R a b) → Paired R as bs
  | [], [], _, _ => .nil
  | a :: as, b :: bs, hl, h => .cons (h 0 a b rfl rfl) (placewise as bs (Nat.succ.inj hl) fun j x y hx hy => h (j + 1) x y hx hy)
/-- the cells that the machine drew out of a text are its signs -/
theorem signs_drawn (z : Str) (cells : Array Value) (drawn : ItemsOf (SignAt z) cells z.cps.size) : Vals (z.cps.toList.map sig) cells.toList := by
  apply placewise
  · simp [drawn.1]
  · intro j v u hv hu
    rw [Array.getElem?_toList] at hu
    rcases drawn.2 j u hu with ⟨code, tok, there, rfl⟩
    have same : v = sig code := by
      rw [List.getElem?_map, Array.getElem?_toList, there] at hv
      exact (Option.some.inj hv).symm
    rw [same]
    exact ⟨tok, rfl⟩
theorem call_listS {X : Cx} (calm : X.calm = true) : CallR X (.type "list") (fun given H Q => ∃ z : Str, given = [.str z] ∧ z.length ≤ sizeLine ∧ ∀ l, H l = none → Q (.ref l) (upd H l (.lst (z.cps.toList.map sig)))) :=
  fun pins s σ H given held Q inv rel ask => by
    rcases ask with ⟨z, rfl, short, hand⟩
    match held, rel with
    | [_], .cons ⟨tok, rfl⟩ .nil =>
      apply PySem.call_list_str (inv.ok.hd calm) z tok (hn := short)
      intro heap toks cells ver kept made drawn
      have long : (z.cps.toList.map sig).length ≤ sizeLine := by
        rw [List.length_map, Array.length_toList]
        exact short
      have stands : Inv X pins σ (upd H s.heap.objs.size (.lst (z.cps.toList.map sig))) { s with heap := heap, toks := toks } :=
        inv.laid kept (Nat.le_refl _) ⟨long, cells.toList, ver, signs_drawn z cells drawn, made⟩
      exact ⟨V.ref s.heap.objs.size, _, stands, rfl, hand _ (inv.hok.fresh (Nat.le_refl _))⟩

/-! ### small things -/
theorem cut {t1 t2 : TS} {D : Ends} {σ : L2.St} {H : Hp} (Pv : L2.St → Hp → Prop) (h2 : ∀ σ' H', Pv σ' H' → t2 D σ' H') (h1 : ∀ N : L2.St → Hp → Prop, (∀ σ' H', Pv σ' H' → N σ' H') → t1 { D with nx := N } σ H) : tSeq t1 t2 D σ H := h1 _ h2
theorem cut_ints (ns : List Int) (lo hi : Option Int) : ∃ ms : List Int, cutV (ns.map V.int) lo hi = ms.map V.int := by
  unfold cutV
  rw [← List.map_drop, ← List.map_take]
  exact ⟨_, rfl⟩
theorem cut_int {ns : List Int} {lo hi : Option Int} {i : Nat} {y : V} (h : (cutV (ns.map V.int) lo hi)[i]? = some y) : ∃ u, y = V.int u := by
  obtain ⟨ms, e⟩ := cut_ints ns lo hi
  rw [e, List.getElem?_map] at h
  cases e2 : ms[i]? with
  | none => rw [e2] at h; cases h
  | some u => rw [e2] at h; exact ⟨u, (Option.some.inj h).symm⟩

/-! ### what the helpers promise -/
def spBag (K : PySem.W.Frag) : Sp := fun vs H Q _ => ∃ (a : Addr) (ns : List Int), vs = [.ref a] ∧ SqL K H a (ns.map V.int) ∧ ∀ H' b l, Same H H' → H b = none → H l = none → Bag H' b l → Q (.ref b) H'
def spPull : Sp := fun vs H Q _ => ∃ (b l : Addr) (m : Int), vs = [.ref b, .int m] ∧ Bag H b l ∧ 0 < m ∧ m < 1073741824 ∧ ∀ H' (d : Int), Kp b H H' → Bag H' b l → 0 ≤ d → d < m → Q (.int d) H'

/-! ### equal data -/
inductive Eqv (H : Hp) : Nat → V → V → Prop where
  | non (n : Nat) : Eqv H n .non .non
  | bl (n : Nat) (b : Bool) : Eqv H n (.bl b) (.bl b)
  | int (n : Nat) (i : Int) : Eqv H n (.int i) (.int i)
  | str (n : Nat) (z : Str) : Eqv H n (.str z) (.str z)
  | lst {n : Nat} {p q : Addr} {xs ys : List V} (hp : H p = some (.lst xs)) (hq : H q = some (.lst ys)) (hl : xs.length = ys.length) (hz : xs.length ≤ 10000) (h : ∀ (i : Nat) (x y : V), xs[i]? = some x → ys[i]? = some y → Eqv H n x y) : Eqv H (n + 1) (.ref p) (.ref q)
  | tup {n : Nat} {p q : Addr} {xs ys : List V} (hp : H p = some (.tup xs)) (hq : H q = some (.tup ys)) (hl : xs.length = ys.length) (hz : xs.length ≤ 10000) (h : ∀ (i : Nat) (x y : V), xs[i]? = some x → ys[i]? = some y → Eqv H n x y) : Eqv H (n + 1) (.ref p) (.ref q)
theorem Eqv.same {H H' : Hp} (s : Same H H') {n : Nat} {x y : V} (e : Eqv H n x y) : Eqv H' n x y := by
  induction e with
  | non n => exact .non n
  | bl n b => exact .bl n b
  | int n i => exact .int n i
  | str n z => exact .str n z
  | lst hp hq hl hz h ih => exact .lst (s _ _ hp) (s _ _ hq) hl hz ih
  | tup hp hq hl hz h ih => exact .tup (s _ _ hp) (s _ _ hq) hl hz ih
def spSame (n : Nat) : Sp := fun vs H Q _ => ∃ (x y : V), vs = [x, y] ∧ Eqv H n x y ∧ ∀ H', Same H H' → Q (.bl true) H'
/-- the type of a flat value -/
theorem kit_list {K : PySem.W.Frag} {a : String} {r : Bool} (h : kitB a "list" = some r) (h2 : r = false → kitB a "tuple" = some false) : PySem.W.kitAny K (.type a) [.type "list", .type "tuple"] = some r := by
  refine kitAny_cons (kit_ty h) (fun e => ?_) (fun e => e)
  subst e
  exact kitAny_cons (kit_ty (h2 rfl)) (fun _ => kitAny_nil) (fun e => by cases e)
theorem kit_tup {K : PySem.W.Frag} : PySem.W.kitAny K (.type "tuple") [.type "list", .type "tuple"] = some true :=
  kitAny_cons (b := false) (kit_ty (by decide +kernel)) (fun _ => kitAny_cons (b := true) (kit_ty (by decide +kernel)) (fun e => by cases e) (fun _ => rfl)) (fun e => by cases e)
/-- zip of two tuples, walked to the end of the shorter -/
theorem zip_tuples {K : PySem.W.Frag} {a b : Addr} {xs ys : List V} (hl : xs.length = ys.length) : Walk (RZ.ItzT K a b) xs.length (fun H => SqT K H a xs ∧ SqT K H b ys) (YPair (fun i => xs[i]?) (fun i => ys[i]?)) where
  goes := fun i H lt both => ⟨xs, ys, xs[i], ys[i]'(by omega), both.1, both.2, List.getElem?_eq_getElem lt, List.getElem?_eq_getElem (by omega)⟩
  stops := fun H both => ⟨xs, ys, both.1, both.2, .inl (Nat.le_refl _)⟩
  yields := fun i H v H' _ both ⟨T, x, y, e, new, after, at_x, at_y⟩ => ⟨T, x, y, e, new, after, at_x xs both.1, at_y ys both.2⟩
def spOf (K : PySem.W.Frag) : Sp := fun vs H Q _ => ∃ (b l : Addr) (t : V) (xs : List V), vs = [.ref b, t] ∧ Bag H b l ∧
  ((∃ a, t = .ref a ∧ a ≠ b ∧ SqL K H a xs) ∨ (∃ z : Str, t = .str z ∧ z.length ≤ sizeLine ∧ xs = z.cps.toList.map sig)) ∧ 0 < xs.length ∧ xs.length < 1073741824 ∧ ∀ H' x, Kp b H H' → Bag H' b l → x ∈ xs → Q x H'
def spMixed (K : PySem.W.Frag) : Sp := fun vs H Q _ => ∃ (b l a : Addr) (xs : List V), vs = [.ref b, .ref a] ∧ Bag H b l ∧ a ≠ b ∧ SqL K H a xs ∧ xs.length ≤ 1000 ∧
  ∀ H' p ys, Kp b H H' → Bag H' b l → H p = none → H' p = some (.lst ys) → ys.Perm xs → Q (.ref p) H'
theorem erasePm {α : Type} : ∀ (l : List α) (i : Nat) (h : i < l.length), (l[i] :: l.eraseIdx i).Perm l
  | [], i, h => absurd h (Nat.not_lt_zero _)
  | x :: r, 0, h => .refl _
  | x :: r, i + 1, h => by
    have hr : i < r.length := Nat.lt_of_succ_lt_succ h
    show (r[i] :: x :: r.eraseIdx i).Perm (x :: r)
    exact (List.Perm.swap x _ _).trans ((erasePm r i hr).cons x)
theorem ifF {c : Bool} {A B : Prop} (h : c = false) (hb : B) : if c = true then A else B := by rw [h]; exact iteF hb
theorem ifT {c : Bool} {A B : Prop} (h : c = true) (ha : A) : if c = true then A else B := by rw [h]; exact iteT ha




/-! ### texts as lists of signs -/
def txt (cs : List Nat) : Str := ⟨cs.toArray⟩
theorem txt_len (cs : List Nat) : (txt cs).length = cs.length := by show cs.toArray.size = _; simp
theorem txt_cps (cs : List Nat) : (txt cs).cps.toList = cs := by show cs.toArray.toList = _; simp
theorem txt_of (z : Str) : txt z.cps.toList = z := by show (⟨z.cps.toList.toArray⟩ : Str) = z; simp
theorem txt_app (a b : List Nat) : txt a ++ txt b = txt (a ++ b) := by
  show (⟨a.toArray ++ b.toArray⟩ : Str) = ⟨(a ++ b).toArray⟩
  simp
theorem txt_inj {a b : List Nat} (h : txt a = txt b) : a = b := by rw [← txt_cps a, ← txt_cps b, h]
theorem txt_minus : Str.ofString "-" = txt [45] := by decide +kernel
theorem txt_empty : Str.ofString "" = txt [] := by decide +kernel
theorem sig_txt (c : Nat) : sig c = .str (txt [c]) := rfl
def lettersL : List Nat → List Nat
  | [] => []
  | c :: r => if c = 45 then r else c :: r
def signL : List Nat → Nat
  | [] => 0
  | c :: r => if c = 45 then 1 else 0
def signedL (t : Int) (cs : List Nat) : List Nat := if t % 2 = 1 then 45 :: cs else cs
theorem letters_len (ts : List Nat) : (lettersL ts).length + signL ts = ts.length := by
  cases ts with
  | nil => rfl
  | cons c r =>
    show (if c = 45 then r else c :: r).length + (if c = 45 then 1 else 0) = r.length + 1
    by_cases h : c = 45
    · rw [if_pos h, if_pos h]
    · rw [if_neg h, if_neg h, List.length_cons]
theorem remove_minus (ts : List Nat) : Txt.removeprefix (txt ts) (Str.ofString "-") = txt (lettersL ts) := by
  rw [txt_minus]
  unfold Txt.removeprefix
  cases ts with
  | nil => rfl
  | cons c r =>
    have e : Builtin.Str.subAt (txt (c :: r)) (txt [45]) 0 = decide (c = 45) := by
      unfold Builtin.Str.subAt
      show ((c :: r).toArray.extract 0 (0 + 1) == #[45]) = _
      have e2 : (c :: r).toArray.extract 0 (0 + 1) = #[c] := by simp
      rw [e2]
      by_cases h : c = 45
      · subst h; rfl
      · rw [decide_eq_false h]
        simp [h]
    rw [e]
    show _ = txt (if c = 45 then r else c :: r)
    by_cases h : c = 45
    · rw [decide_eq_true h, if_pos rfl, if_pos h]
      unfold Txt.affix
      have e3 : ((txt (c :: r)).length - (txt [45]).length == (txt (c :: r)).length) = false := by
        rw [txt_len, txt_len]
        simp
      show (if ((txt (c :: r)).length - (txt [45]).length == (txt (c :: r)).length) = true then _ else _) = _
      rw [e3, if_neg Bool.false_ne_true]
      show (⟨(c :: r).toArray.extract 1 (c :: r).toArray.size⟩ : Str) = ⟨r.toArray⟩
      simp
    · rw [decide_eq_false h, if_neg Bool.false_ne_true, if_neg h]
      rfl
theorem join_txt : ∀ (xs : List (List Nat)), Txt.join (Str.ofString "") (xs.map txt) = txt xs.flatten := by
  intro xs
  show Builtin.Str.glued _ _ = _
  rw [StrLaws.glued_eq_join, txt_empty]
  induction xs with
  | nil => rfl
  | cons x r ih =>
    cases r with
    | nil => show txt x = txt (x ++ []); rw [List.append_nil]
    | cons y r =>
      show txt x ++ txt [] ++ Str.join (txt []) ((y :: r).map txt) = _
      rw [ih, txt_app, txt_app, List.append_nil]
      rfl
theorem flat_ones (cs : List Nat) : (cs.map fun c => [c]).flatten = cs := by
  induction cs with
  | nil => rfl
  | cons c r ih => show c :: (r.map fun c => [c]).flatten = _; rw [ih]
theorem join_sigs (cs : List Nat) : Txt.join (Str.ofString "") (cs.map fun c => txt [c]) = txt cs := by
  have e : (cs.map fun c => txt [c]) = (cs.map fun c => [c]).map txt := by rw [List.map_map]; rfl
  rw [e, join_txt, flat_ones]
theorem len_ones (cs : List Nat) : ((cs.map fun c => txt [c]).map (·.length)).sum = cs.length := by
  induction cs with
  | nil => rfl
  | cons c r ih =>
    show (txt [c]).length + ((r.map fun c => txt [c]).map (·.length)).sum = _
    rw [ih, txt_len, List.length_cons]
    simp [Nat.add_comm]
/-- a word: its sign, its letters (none is the sign) -/
def wd (s : Bool) (cs : List Nat) : List Nat := if s then 45 :: cs else cs
def Lt (cs : List Nat) : Prop := ∀ c ∈ cs, c ≠ 45
theorem letters_wd {s : Bool} {cs : List Nat} (h : Lt cs) : lettersL (wd s cs) = cs := by
  cases s with
  | true => rfl
  | false =>
    cases cs with
    | nil => rfl
    | cons c r =>
      show (if c = 45 then r else c :: r) = c :: r
      rw [if_neg (h c List.mem_cons_self)]
theorem sign_wd {s : Bool} {cs : List Nat} (h : Lt cs) : signL (wd s cs) = s.toNat := by
  cases s with
  | true => rfl
  | false =>
    cases cs with
    | nil => rfl
    | cons c r =>
      show (if c = 45 then 1 else 0) = 0
      rw [if_neg (h c List.mem_cons_self)]
theorem signed_wd (t : Int) (cs : List Nat) : signedL t cs = wd (decide (t % 2 = 1)) cs := by
  unfold signedL wd
  by_cases h : t % 2 = 1
  · rw [if_pos h, decide_eq_true h]; rfl
  · rw [if_neg h, decide_eq_false h]; rfl
theorem wd_len (s : Bool) (cs : List Nat) : (wd s cs).length = cs.length + s.toNat := by cases s <;> rfl
def spLetters : Sp := fun vs H Q _ => ∃ ts : List Nat, vs = [.str (txt ts)] ∧ ts.length ≤ sizeLine ∧ Q (.str (txt (lettersL ts))) H
def spSignOf : Sp := fun vs H Q _ => ∃ ts : List Nat, vs = [.str (txt ts)] ∧ ts.length ≤ sizeLine ∧ Q (.int (signL ts)) H
def spSigned : Sp := fun vs H Q _ => ∃ (t : Int) (cs : List Nat), vs = [.int t, .str (txt cs)] ∧ cs.length < sizeLine ∧ Q (.str (txt (signedL t cs))) H

/-! ### cancelling -/
def stp (rs : List Nat) (c : Nat) : List Nat := match rs with
  | [] => [c]
  | d :: r => if d = c then r else c :: d :: r
def noAdj : List Nat → Prop
  | a :: b :: r => a ≠ b ∧ noAdj (b :: r)
  | _ => True
theorem noAdj.tail {a : Nat} {r : List Nat} (h : noAdj (a :: r)) : noAdj r := by
  cases r with
  | nil => trivial
  | cons b r => exact h.2
theorem stp_noAdj {rs : List Nat} (c : Nat) (h : noAdj rs) : noAdj (stp rs c) := by
  cases rs with
  | nil => trivial
  | cons d r =>
    unfold stp
    dsimp only
    by_cases e : d = c
    · rw [if_pos e]; exact h.tail
    · rw [if_neg e]; exact ⟨fun z => e z.symm, h⟩
theorem stp_stp {rs : List Nat} (c : Nat) (h : noAdj rs) : stp (stp rs c) c = rs := by
  cases rs with
  | nil => show (if c = c then [] else _) = _; rw [if_pos rfl]
  | cons d r =>
    by_cases e : d = c
    · subst e
      have e1 : stp (d :: r) d = r := if_pos rfl
      rw [e1]
      cases r with
      | nil => rfl
      | cons b r =>
        show (if b = d then r else d :: b :: r) = _
        rw [if_neg (fun z => h.1 z.symm)]
    · have e1 : stp (d :: r) c = c :: d :: r := if_neg e
      rw [e1]
      show (if c = c then d :: r else _) = _
      rw [if_pos rfl]
def redR (cs : List Nat) : List Nat := cs.foldl stp []
def redL (cs : List Nat) : List Nat := (redR cs).reverse
theorem fold_noAdj : ∀ (cs rs : List Nat), noAdj rs → noAdj (cs.foldl stp rs)
  | [], _, h => h
  | c :: r, rs, h => fold_noAdj r (stp rs c) (stp_noAdj c h)
theorem redR_snoc (cs : List Nat) (c : Nat) : redR (cs ++ [c]) = stp (redR cs) c := by
  unfold redR
  rw [List.foldl_append]
  rfl
theorem red_cancel (a b : List Nat) (c : Nat) : redL (a ++ c :: c :: b) = redL (a ++ b) := by
  unfold redL redR
  rw [List.foldl_append, List.foldl_append]
  show (b.foldl stp (stp (stp (a.foldl stp []) c) c)).reverse = _
  rw [stp_stp c (fold_noAdj a [] trivial)]
theorem stp_mem {rs : List Nat} {c x : Nat} (h : x ∈ stp rs c) : x = c ∨ x ∈ rs := by
  cases rs with
  | nil => exact .inl (List.mem_singleton.mp h)
  | cons d r =>
    by_cases e : d = c
    · have e1 : stp (d :: r) c = r := if_pos e
      rw [e1] at h
      exact .inr (List.mem_cons_of_mem _ h)
    · have e1 : stp (d :: r) c = c :: d :: r := if_neg e
      rw [e1] at h
      exact (List.mem_cons.mp h)
theorem stp_len (rs : List Nat) (c : Nat) : (stp rs c).length ≤ rs.length + 1 := by
  cases rs with
  | nil => exact Nat.le_refl _
  | cons d r =>
    by_cases e : d = c
    · have e1 : stp (d :: r) c = r := if_pos e
      rw [e1, List.length_cons]; omega
    · have e1 : stp (d :: r) c = c :: d :: r := if_neg e
      rw [e1]; exact Nat.le_refl _
def still (cs : List Nat) : Prop := ∀ (i : Nat) (a b : Nat), cs[i]? = some a → cs[i + 1]? = some b → a ≠ b
theorem redR_take {cs : List Nat} (h : still cs) : ∀ k, k ≤ cs.length → redR (cs.take k) = (cs.take k).reverse
  | 0, _ => rfl
  | k + 1, hk => by
    have hk1 : k < cs.length := hk
    rw [List.take_succ_eq_append_getElem hk1, redR_snoc, redR_take h k (by omega), List.reverse_append]
    cases k with
    | zero => rfl
    | succ j =>
      have hj : j < cs.length := by omega
      rw [List.take_succ_eq_append_getElem hj, List.reverse_append]
      show (if cs[j] = cs[j + 1] then _ else cs[j + 1] :: cs[j] :: (cs.take j).reverse) = cs[j + 1] :: cs[j] :: (cs.take j).reverse
      rw [if_neg (h j _ _ (List.getElem?_eq_getElem hj) (List.getElem?_eq_getElem hk1))]
theorem red_still {cs : List Nat} (h : still cs) : redL cs = cs := by
  have e := redR_take h cs.length (Nat.le_refl _)
  rw [List.take_length] at e
  unfold redL
  rw [e, List.reverse_reverse]
theorem redR_len (cs : List Nat) : (redR cs).length ≤ cs.length := by
  have : ∀ (cs rs : List Nat), (cs.foldl stp rs).length ≤ rs.length + cs.length := by
    intro cs
    induction cs with
    | nil => intro rs; exact Nat.le_refl _
    | cons c r ih =>
      intro rs
      have h1 := ih (stp rs c)
      have h2 := stp_len rs c
      show (r.foldl stp (stp rs c)).length ≤ rs.length + (r.length + 1)
      omega
  have h := this cs []
  rw [List.length_nil, Nat.zero_add] at h
  exact h
def spReduced : Sp := fun vs H Q _ => ∃ ts : List Nat, vs = [.str (txt ts)] ∧ ts.length ≤ 1000 ∧ ∀ H', Same H H' → Q (.str (txt (signedL (signL ts) (redL (lettersL ts))))) H'

/-! ### slices of texts; lists of ints as data -/
theorem cutS_take (cs : List Nat) (k : Nat) : cutS (txt cs) none (some (k : Int)) = txt (cs.take k) := by
  unfold cutS
  rw [txt_cps, HT.sIx_none, HT.sIx_nat, txt_len]
  show txt _ = txt _
  congr 1
  rw [List.drop_zero, Nat.sub_zero]
  by_cases h : k ≤ cs.length
  · rw [Nat.min_eq_left h]
  · rw [Nat.min_eq_right (by omega), List.take_length, List.take_of_length_le (by omega)]
theorem cutS_drop (cs : List Nat) (k : Nat) : cutS (txt cs) (some (k : Int)) none = txt (cs.drop k) := by
  unfold cutS
  rw [txt_cps, HT.sIx_none, HT.sIx_nat, txt_len]
  show txt _ = txt _
  congr 1
  by_cases h : k ≤ cs.length
  · rw [Nat.min_eq_left h]
    exact List.take_of_length_le (by rw [List.length_drop]; exact Nat.le_refl _)
  · rw [Nat.min_eq_right (by omega), List.drop_of_length_le (Nat.le_refl _), List.drop_of_length_le (l := cs) (by omega)]
    exact List.take_nil
theorem cutV_take (xs : List V) (k : Nat) : cutV xs none (some (k : Int)) = xs.take k := by
  unfold cutV
  rw [HT.sIx_none, HT.sIx_nat, List.drop_zero, Nat.sub_zero]
  by_cases h : k ≤ xs.length
  · rw [Nat.min_eq_left h]
  · rw [Nat.min_eq_right (by omega), List.take_length, List.take_of_length_le (by omega)]
theorem dp_ints {K : PySem.W.Frag} {H : Hp} : ∀ ns : List Int, DpAll K H (ns.map V.int) (ns.map PyData.int)
  | [] => .nil
  | n :: r => .cons (.int n) (dp_ints r)
theorem shaped_ints' (ns : List Int) : SeqAt.shaped (.list (ns.map PyData.int)) = true := PySem.W.ke_shaped_ints ns
theorem signed_wd0 {s : Bool} (cs : List Nat) : signedL ((s.toNat : Nat) : Int) cs = wd s cs := by cases s <;> rfl
def spLSigned : Sp := spSigned
def spLets : Sp := fun vs H Q _ => vs = [] ∧ Q (.str (Str.ofString "abcdefghijklmnopqrstuvwx")) H
def alpha : List Nat := [97, 98, 99, 100, 101, 102, 103, 104, 105, 106, 107, 108, 109, 110, 111, 112, 113, 114, 115, 116, 117, 118, 119, 120]
theorem txt_alpha : Str.ofString "abcdefghijklmnopqrstuvwx" = txt alpha := by decide +kernel
theorem alpha_lt {c : Nat} (h : c ∈ alpha) : c ≠ 45 := by
  intro e
  subst e
  exact absurd h (by decide)
theorem perm_sigs {ys : List V} {cs : List Nat} (h : ys.Perm (cs.map sig)) : ∃ ds : List Nat, ys = ds.map sig ∧ ds.Perm cs := by
  refine ⟨ys.map (fun v => match v with | .str z => z.cps.toList.headD 0 | _ => 0), ?_, ?_⟩
  · rw [List.map_map]
    have : ∀ y ∈ ys, (sig ∘ fun v => match v with | .str z => z.cps.toList.headD 0 | _ => 0) y = y := by
      intro y hy
      obtain ⟨c, _, rfl⟩ := List.mem_map.mp (h.mem_iff.mp hy)
      rfl
    rw [List.map_congr_left this, List.map_id']
  · have h2 := h.map (fun v => match v with | .str z => z.cps.toList.headD 0 | _ => 0)
    rw [List.map_map] at h2
    have e : ((fun v => match v with | V.str z => z.cps.toList.headD 0 | _ => 0) ∘ sig) = id := by funext c; rfl
    rw [e, List.map_id] at h2
    exact h2
def spLaw (K : PySem.W.Frag) : Sp := fun vs H Q _ => ∃ (a : Addr) (ns : List Int), vs = [.ref a] ∧ SqL K H a (ns.map V.int) ∧ ns.length ≤ 63 ∧ ∀ H', Q (.bl true) H'
end Tm

/-! a text backwards -/
namespace Tm
open PySem PySem.Spec PyProof.Rows L2
def tBackS (te : TE) : TE := fun σ H Q => te σ H fun v H1 => ∃ cs : List Nat, v = .str (txt cs) ∧ cs.length ≤ sizeLine ∧ Q (.str (txt cs.reverse)) H1
theorem back_txt (cs : List Nat) (u : Tok) : Txt.sliceBy (txt cs) none none (-1, u) = txt cs.reverse := by
  have same : (Txt.sliceBy (txt cs) none none (-1, u)).cps.toList = cs.reverse := by
    rw [step_rev_list]
    apply List.ext_getElem
    · simp [txt_len]
    · intro j hj hk
      have hj2 : j < cs.length := by simpa using hk
      rw [List.getElem_map, List.getElem_range, List.getElem_reverse, txt_len]
      show cs.toArray.getD (cs.length - 1 - j) 0 = _
      rw [Array.getD_eq_getD_getElem?, List.getElem?_toArray, List.getElem?_eq_getElem (by omega)]
      rfl
  rw [← txt_of (Txt.sliceBy (txt cs) none none (-1, u)), same]
theorem text_stays (e : Expr) (z : Str) (t : Tok) (r : Value) : letTemporaryGo e (.str z t) r = pure () := by cases e <;> rfl
theorem pe_back {X : Cx} {e : Expr} {te : TE} {k : Nat} {p1 p2 p3 pos : Pos} (he : PE X e te) :
    PE X (.Subscript e (.Slice none none (some (.UnaryOp .USub (.Constant (.int 1) k p1) p2)) p3) pos) (tBackS te) where
  run pins s σ H Q inv ask := by
    have minus : PE X (.UnaryOp .USub (.Constant (.int 1) k p1) p2) _ := pe_un un_neg pe_int
    apply PyProof.Rows.Subscript_
    apply wpAny_mono (he.run pins s σ H _ inv ask) _ (fun _ _ raised => raised)
    rintro v s1 ⟨x, H1, inv1, rel, cs, rfl, short, hand⟩
    rcases rel with ⟨tok, rfl⟩
    apply wpAny_Slice
    rw [evalPart_none, evalPart_some]
    apply wpAny_pure
    apply wpAny_pure
    apply wpAny_mono (minus.run pins s1 σ H1 (fun y H2 => y = .int (-1) ∧ H2 = H1) inv1 ?ask) _ (fun _ _ raised => raised)
    case ask => exact ⟨_, rfl, rfl, rfl⟩
    rintro v s2 ⟨y, H2, inv2, rel, rfl, rfl⟩
    rcases rel with ⟨unit, rfl⟩
    apply subscriptTail_builtin (T := "str") (typeIs_str _ _ _) F.slot_str_getitem.lookup (ht := text_stays e _ _)
    apply wpAny_getItem_str_slice (l := none) (u := none) (st := some (-1, unit)) ⟨_, Heap.get?_push_size _ rfl, rfl, rfl⟩ rfl
    apply post_val_or_str
    refine ⟨?_, fun tok2 ct => ⟨.str (txt cs.reverse), H2, ?_, ⟨tok2, ?_⟩, hand⟩⟩
    · exact Nat.le_trans (Txt.sliceBy_le (txt cs) none none (-1, unit) (by show (-1 : Int) ≠ 0; decide)) (by rw [txt_len]; exact short)
    · exact inv2.kept (t' := ct) fun b o there => Heap.get?_push_of_some _ there
    · exact congrArg (fun z => Value.str z tok2) (back_txt cs unit)
end Tm

/-! a call by place of a def that takes a star; products of words -/
namespace Tm
open PySem PySem.Spec PyProof.Rows L2
section
variable {X : Cx} {CX : CXT} {k : Nat} {f : Addr} {sp : Sp} {E : XK} {x : Str} {p pos : Pos}
theorem pe_place {e : Expr} {es : List Expr} {ta : TA} (promise : FnR X.prog X.w X.K X.mg X.base CX k f sp) (room : Room k X.A) (kept : PySem.W.keepIn X.K (.ref f) = true) (glob : Gl X x) (found : X.mg x = some (.ref f)) (pass : Passes CX X E) (args : PA X (e :: es) ta)
    (nodebug : (x == ("__debug__" : Str)) = false := by decide) (first : starEach (e :: es) X.env = (false, eval e X.env) :: starEach es X.env := by rfl) (plain : (backTo pos (starEach es X.env)).any (·.1) = false := by rfl) :
    PE X (.Call (.Name x p) (e :: es) [] pos) (fun σ H Q => ta σ H fun given H1 => sp given H1 Q E) where
  run pins s σ H Q inv ask := by
    apply wpAny_Call_Name_kw
    apply ld_glob inv glob found _ nodebug
    apply PySem.W.callWith_K (h₀ := X.base) inv.ok.mod.kin kept _ first plain
    apply wpAny_mono (args.run pos pins s σ H _ inv ask) _ (fun _ _ raised => raised)
    rintro held s1 ⟨given, H1, inv1, rel, meets⟩
    exact ⟨inv1.kIn, wpAny_call (run_fnR promise room pass inv1 rel meets)⟩
theorem pe_place0 (promise : FnR X.prog X.w X.K X.mg X.base CX k f sp) (room : Room k X.A) (kept : PySem.W.keepIn X.K (.ref f) = true) (glob : Gl X x) (found : X.mg x = some (.ref f)) (pass : Passes CX X E)
    (nodebug : (x == ("__debug__" : Str)) = false := by decide) : PE X (.Call (.Name x p) [] [] pos) (fun _ H Q => sp [] H Q E) where
  run pins s σ H Q inv ask := by
    apply wpAny_Call_Name_kw
    apply ld_glob inv glob found _ nodebug
    apply PySem.W.callWith_K0 inv.kIn kept
    exact wpAny_call (run_fnR (us := []) promise room pass inv .nil ask)
end
def tv (cs : List Nat) : V := .str (txt cs)
/-- the sum of the signs, the letters one behind the other -/
def signsL (xss : List (List Nat)) : Nat := (xss.map signL).sum
def allL (xss : List (List Nat)) : List Nat := (xss.map lettersL).flatten
def joinL (xss : List (List Nat)) : List Nat := signedL (signsL xss : Nat) (allL xss)
def Few (xss : List (List Nat)) : Prop := xss.length ≤ 10 ∧ ∀ x ∈ xss, x.length ≤ 1000
def spProd : Sp := fun vs H Q _ => ∃ xss : List (List Nat), vs = xss.map tv ∧ Few xss ∧ ∀ H', Same H H' → Q (tv (joinL xss)) H'
def spProdT : Sp := fun vs H Q _ => ∃ (p : Addr) (xss : List (List Nat)), vs = [.ref p] ∧ H p = some (.tup (xss.map tv)) ∧ Few xss ∧ ∀ H', Same H H' → Q (tv (joinL xss)) H'
def invL (ts : List Nat) : List Nat := signedL (signL ts) (lettersL ts).reverse
def spInv : Sp := fun vs H Q _ => ∃ ts : List Nat, vs = [.str (txt ts)] ∧ ts.length ≤ 1000 ∧ Q (tv (invL ts)) H
def spLBody : Sp := fun vs H Q _ => ∃ ts : List Nat, vs = [.str (txt ts)] ∧ ts.length ≤ 1000 ∧ Q (.str (txt (lettersL ts))) H
def spJoined (K : PySem.W.Frag) : Sp := fun vs H Q _ => ∃ (p : Addr) (xss : List (List Nat)), vs = [.ref p] ∧ SqL K H p (xss.map tv) ∧ Few xss ∧ ∀ H', Same H H' → Q (tv (joinL xss)) H'
theorem lettersL_le (ts : List Nat) : (lettersL ts).length ≤ ts.length := by have e := letters_len ts; omega
theorem allL_le : ∀ {xss : List (List Nat)} {m : Nat}, (∀ x ∈ xss, x.length ≤ m) → (allL xss).length ≤ xss.length * m
  | [], _, _ => Nat.zero_le _
  | x :: r, m, h => by
    have e1 : (allL (x :: r)).length = (lettersL x).length + (allL r).length := by
      show (lettersL x ++ allL r).length = _
      rw [List.length_append]
    have e2 := allL_le (xss := r) (m := m) fun y hy => h y (List.mem_cons_of_mem _ hy)
    have e3 := h x List.mem_cons_self
    have e4 := lettersL_le x
    rw [e1, List.length_cons, Nat.succ_mul]
    omega
theorem Few.all {xss : List (List Nat)} (h : Few xss) : (allL xss).length ≤ 10000 := by
  have e := allL_le h.2
  have e2 : xss.length * 1000 ≤ 10 * 1000 := Nat.mul_le_mul_right _ h.1
  omega
theorem allL_snoc (xss : List (List Nat)) (x : List Nat) : allL (xss ++ [x]) = allL xss ++ lettersL x := by
  unfold allL
  rw [List.map_append, List.flatten_append]
  simp
theorem signsL_snoc (xss : List (List Nat)) (x : List Nat) : signsL (xss ++ [x]) = signsL xss + signL x := by
  unfold signsL
  rw [List.map_append, List.sum_append]
  simp
theorem sum_int (ns : List Nat) : (ns.map fun n : Nat => (n : Int)).sum = ((ns.sum : Nat) : Int) := by
  induction ns with
  | nil => rfl
  | cons n r ih => rw [List.map_cons, List.sum_cons, List.sum_cons, ih]; omega
theorem lens_txt (xss : List (List Nat)) : ((xss.map txt).map (·.length)).sum = xss.flatten.length := by
  induction xss with
  | nil => rfl
  | cons x r ih => rw [List.map_cons, List.map_cons, List.sum_cons, ih, txt_len, List.flatten_cons, List.length_append]
theorem bit_sign (ts : List Nat) : (if decide (signL ts = 1) = true then (1 : Int) else 0) = ((signL ts : Nat) : Int) := by
  cases ts with
  | nil => rfl
  | cons c r =>
    by_cases h : c = 45
    · rw [show signL (c :: r) = 1 from if_pos h]
      rfl
    · rw [show signL (c :: r) = 0 from if_neg h]
      rfl
theorem lt_rev {cs : List Nat} (h : Lt cs) : Lt cs.reverse := fun c hc => h c (List.mem_reverse.mp hc)
theorem lt_app {as bs : List Nat} (h : Lt as) (h2 : Lt bs) : Lt (as ++ bs) := fun c hc => (List.mem_append.mp hc).elim (h c) (h2 c)
theorem inv_wd {s : Bool} {cs : List Nat} (h : Lt cs) : invL (wd s cs) = wd s cs.reverse := by
  unfold invL
  rw [letters_wd h, sign_wd h, signed_wd0]
theorem inv_inv {s : Bool} {cs : List Nat} (h : Lt cs) : invL (invL (wd s cs)) = wd s cs := by
  rw [inv_wd h, inv_wd (lt_rev h), List.reverse_reverse]
/-- letters and the same backwards cancel, whatever stands around -/
theorem red_back : ∀ (cs as bs : List Nat), redL (as ++ (cs ++ cs.reverse) ++ bs) = redL (as ++ bs)
  | [], as, bs => by simp
  | c :: r, as, bs => by
    have e : as ++ ((c :: r) ++ (c :: r).reverse) ++ bs = (as ++ [c]) ++ (r ++ r.reverse) ++ (c :: bs) := by simp
    have e2 : as ++ [c] ++ (c :: bs) = as ++ c :: c :: bs := by simp
    rw [e, red_back r, e2, red_cancel]
theorem join_back {s : Bool} {cs : List Nat} (h : Lt cs) : joinL [wd s cs, invL (wd s cs)] = cs ++ cs.reverse := by
  have hr := lt_rev h
  have e : signsL [wd s cs, wd s cs.reverse] = s.toNat + s.toNat := by
    show signL (wd s cs) + (signL (wd s cs.reverse) + 0) = _
    rw [sign_wd h, sign_wd hr]
    omega
  have e2 : allL [wd s cs, wd s cs.reverse] = cs ++ cs.reverse := by
    show lettersL (wd s cs) ++ (lettersL (wd s cs.reverse) ++ []) = _
    rw [letters_wd h, letters_wd hr, List.append_nil]
  rw [inv_wd h]
  unfold joinL
  rw [e, e2]
  cases s <;> rfl
theorem red_gone {s : Bool} {cs : List Nat} (h : Lt cs) : signedL (signL (joinL [wd s cs, invL (wd s cs)])) (redL (lettersL (joinL [wd s cs, invL (wd s cs)]))) = [] := by
  have hb : Lt (cs ++ cs.reverse) := lt_app h (lt_rev h)
  have e1 : signL (cs ++ cs.reverse) = 0 := sign_wd (s := false) hb
  have e2 : lettersL (cs ++ cs.reverse) = cs ++ cs.reverse := letters_wd (s := false) hb
  have e3 : redL (cs ++ cs.reverse) = [] := by
    have e := red_back cs [] []
    rw [List.nil_append, List.append_nil] at e
    exact e
  rw [join_back h, e1, e2, e3]
  rfl
end Tm

/-! zip of two texts, walked in pairs -/
namespace Tm
open PySem PySem.Spec PyProof.Rows L2
/-- the pairs of the signs of two texts; each pair is a new tuple -/
def ItzS (cs ds : List Nat) : It :=
  ⟨fun i _ => i < min cs.length ds.length, fun i H x H' => ∃ T c d, x = .ref T ∧ H T = none ∧ H' = upd H T (.tup [sig c, sig d]) ∧ cs[i]? = some c ∧ ds[i]? = some d, fun i _ => i = min cs.length ds.length⟩
def iZipS (ta : TA) : TI := fun σ H R => ta σ H fun vs H1 => ∃ cs ds : List Nat, vs = [.str (txt cs), .str (txt ds)] ∧ R (ItzS cs ds) H1
/-- the cells in which a zip of two texts stands at turn i -/
def zipAt (N : Addr) (x y : Str) (t u : Tok) (i : Nat) (h : Heap) : Prop :=
  IsZip h (N + 4) (N + 2) (N + 3) .none ∧ IsTupOf2 h (N + 2) (.ref N) (.ref (N + 1)) ∧ (∃ a b, IsTupOf2 h (N + 3) a b) ∧ h.IsStrIter N (strIterType x) x t i ∧ h.IsStrIter (N + 1) (strIterType y) y u i
def zipCells (N : Addr) : List Addr := [N + 4, N + 2, N + 3, N, N + 1]
theorem zip_goes {prog : Program} {w : World} {A : Around} (hh : A.handled = none) (elts : List Expr) (k : Nat) (pos : Pos) (N : Addr) (x y : Str) (t u : Tok) :
    GoesN prog w A (.Tuple elts k pos) (N + 4) (zipCells N) [N + 4, N + 3, N, N + 1] (min x.cps.size y.cps.size)
      (fun i h₀ v h => ∃ T a b, v = .ref T ∧ h₀.objs.size ≤ T ∧ SignAt x i a ∧ SignAt y i b ∧ h.IsTuple T #[a, b]) (zipAt N x y t u) :=
  GoesN.zip2 (zip_sep2 (fp1 := []) (fp2 := []) (fun _ h => by cases h) (fun _ h => by cases h)) (Draws.text (A := A.in1) hh N x t) (Draws.text (A := A.in1) hh (N + 1) y u)
theorem at_txt {cs : List Nat} {i c : Nat} (h : (txt cs).cps[i]? = some c) : cs[i]? = some c := by
  have e : (txt cs).cps[i]? = cs[i]? := List.getElem?_toArray ..
  rw [← e]; exact h
theorem size_txt (cs : List Nat) : (txt cs).cps.size = cs.length := List.size_toArray
theorem zip_obj {N : Addr} {x y : Str} {t u : Tok} {i : Nat} {h : Heap} (st : zipAt N x y t u i h) : ∀ q ∈ zipCells N, ∃ o, h.get? q = some o ∧ ∀ v, o.data ≠ .cell v := by
  rcases st with ⟨z, ti, ⟨a, b, to⟩, ⟨o1, g1, c1, d1⟩, ⟨o2, g2, c2, d2⟩⟩
  intro q hq
  simp only [zipCells, List.mem_cons, List.not_mem_nil, or_false] at hq
  rcases hq with rfl | rfl | rfl | rfl | rfl
  · exact ⟨_, z, fun v e => by cases e⟩
  · exact ⟨_, ti, fun v e => by cases e⟩
  · exact ⟨_, to, fun v e => by cases e⟩
  · exact ⟨o1, g1, fun v e => by rw [d1] at e; cases e⟩
  · exact ⟨o2, g2, fun v e => by rw [d2] at e; cases e⟩
theorem zip_turn (P : Program) (w : World) (K : PySem.W.Frag) (elts : List Expr) (k : Nat) (pos : Pos) (N : Addr) (cs ds : List Nat) (t u : Tok) :
    Turn P w K (.Tuple elts k pos) (ItzS cs ds) (zipCells N) (N + 4) (zipAt N (txt cs) (txt ds) t u) where
  mem := List.mem_cons_self ..
  obj := fun i h st => zip_obj st
  keep := by
    rintro i h h' ⟨z, ti, ⟨a, b, to⟩, ⟨o1, g1, r1⟩, ⟨o2, g2, r2⟩⟩ same
    have on : ∀ q ∈ zipCells N, ∀ o, h.get? q = some o → h'.get? q = some o := same
    exact ⟨on _ (by simp [zipCells]) _ z, on _ (by simp [zipCells]) _ ti, ⟨a, b, on _ (by simp [zipCells]) _ to⟩, ⟨o1, on _ (by simp [zipCells]) _ g1, r1⟩, ⟨o2, on _ (by simp [zipCells]) _ g2, r2⟩⟩
  item := by
    intro X ep ew eK calm i pins s σ H E inv own st go
    subst ep ew eK
    have G := zip_goes (prog := X.prog) (w := X.w) (inv.ok.hd calm) elts k pos N (txt cs) (txt ds) t u
    refine G.goes i s (fun v s2 => ∃ x H', Inv X pins σ H' s2 ∧ RelV x v ∧ (ItzS cs ds).yld i H x H' ∧ zipAt N (txt cs) (txt ds) t u (i + 1) s2.heap ∧ ∀ b ∈ zipCells N, H' b = none) E (by rw [size_txt, size_txt]; exact go) st ?_
    rintro v h' tk ⟨T, a, b, rfl, new, ⟨c, ta, hc, rfl⟩, ⟨d, tb, hd, rfl⟩, tup⟩ st' kept _
    have inside : ∀ q ∈ [N + 4, N + 3, N, N + 1], FpOk X pins H q := fun q hq => own q (G.sub q hq)
    have fresh : H T = none := inv.hok.fresh new
    have laid : ObjOk X.prog X.w (upd H T (.tup [sig c, sig d])) h' T (.tup [sig c, sig d]) :=
      ⟨by show 2 ≤ sizeLine; decide, [.str ⟨#[c]⟩ ta, .str ⟨#[d]⟩ tb], .cons ⟨ta, rfl⟩ (.cons ⟨tb, rfl⟩ .nil), tup⟩
    refine ⟨.ref T, _, inv.turnedNew kept inside new laid, rfl, ⟨T, c, d, rfl, fresh, rfl, at_txt hc, at_txt hd⟩, st', fun q hq => ?_⟩
    rw [upd_ne (fun e => ?_)]
    · exact (own q hq).1
    · obtain ⟨ob, there, _⟩ := zip_obj st q hq
      exact absurd (Nat.lt_of_lt_of_le (Heap.lt_size there) (e ▸ new)) (Nat.lt_irrefl _)
  done := by
    intro X ep ew eK calm i pins s σ H E inv own st stop
    subst ep ew eK
    have G := zip_goes (prog := X.prog) (w := X.w) (inv.ok.hd calm) elts k pos N (txt cs) (txt ds) t u
    have e : i = min (txt cs).cps.size (txt ds).cps.size := by rw [size_txt, size_txt]; exact stop
    subst e
    refine G.stops s (Inv X pins σ H) E st fun h' tk kept _ => ?_
    exact inv.turnedL kept fun q hq => own q (G.sub q hq)
  self := fun _ _ _ _ _ st done => wpAny_pyIter_zip st.1 done
theorem pi_zipS {X : Cx} {e e2 : Expr} {ta : TA} {p pos tpos : Pos} {elts : List Expr} {kk : Nat} (glob : Gl X "zip") (free : X.mg "zip" = none) (args : PA X [e, e2] ta)
    (first : starEach [e, e2] X.env = (false, eval e X.env) :: starEach [e2] X.env := by rfl) (plain : (backTo pos (starEach [e2] X.env)).any (·.1) = false := by rfl) :
    PI X (.Tuple elts kk tpos) (.Call (.Name "zip" p) [e, e2] [] pos) (iZipS ta) where
  run pins s σ H R inv ask := by
    apply wpAny_Call_Name_kw
    apply ld_blt inv glob free PyProof.Rows.boot_zip
    apply PyProof.Rows.callWith_type1 _ first plain
    apply wpAny_mono (args.run pos pins s σ H _ inv ask) _ (fun _ _ raised => raised)
    rintro held s1 ⟨given, H1, inv1, rel, cs, ds, rfl, hand⟩
    match held, rel with
    | [_, _], .cons ⟨t1, rfl⟩ (.cons ⟨t2, rfl⟩ .nil) =>
      apply zip_begins2 (begins_text _ _) (begins_text _ _) trivial trivial
      intro heap hz hi ho g1 g2 size kept
      apply wpAny_pyIter_zip hz
      have inv2 : Inv X pins σ H1 { s1 with heap := heap } := inv1.kept (t' := s1.toks) kept
      refine ⟨_, zipCells s1.heap.objs.size, zipAt s1.heap.objs.size (txt cs) (txt ds) t1 t2, ItzS cs ds, H1, rfl, inv2, zip_turn _ _ _ _ _ _ _ _ _ _ _, ⟨hz, hi, ⟨_, _, ho⟩, ⟨_, g1, rfl, rfl⟩, ⟨_, g2, rfl, rfl⟩⟩, fun q hq => ?_, hand⟩
      have above : s1.heap.objs.size ≤ q := by
        simp only [zipCells, List.mem_cons, List.not_mem_nil, or_false] at hq
        have up : ∀ n : Nat, (s1.heap.objs.size : Nat) ≤ s1.heap.objs.size + n := fun n => Nat.le_add_right _ _
        rcases hq with rfl | rfl | rfl | rfl | rfl
        · exact up 4
        · exact up 2
        · exact up 3
        · exact up 0
        · exact up 1
      have low := inv1.fpOk (H' := H1) above (inv1.hok.fresh above)
      exact low
theorem walk_zipS {cs ds : List Nat} : Walk (ItzS cs ds) (min cs.length ds.length) (fun _ => True) (fun i H x H' => ∃ T c d, x = .ref T ∧ H T = none ∧ H' = upd H T (.tup [sig c, sig d]) ∧ cs[i]? = some c ∧ ds[i]? = some d) where
  goes := fun _ _ lt _ => lt
  stops := fun _ _ => rfl
  yields := fun _ _ _ _ _ _ y => y
end Tm

/-! a set comprehension whose elements are ints; its length -/
namespace Tm
open PySem PySem.Spec PyProof.Rows L2
/-- {elt for target in iter}: D is the new set; W holds ahead of each turn, by the turn and a number that falls; Nx is what a turn reaches -/
def tSetI (w : World) (wi : TI) (g : TG) (te : TE) (vs : List Nat) : TE := fun σ H Q => wi σ H fun J H1 => ∀ D, H1 D = none → ∃ W : Nat → Nat → Hp → Prop, (∃ m, W 0 m (upd H1 D (SetO w D (fun _ => false) 0))) ∧
  ∀ i m H, W i m H → (J.stop i H ∧ Q (.ref D) H) ∨ (J.go i H ∧ ∃ Nx : Hp → Prop, (∀ H', Nx H' → ∃ m', m' < m ∧ W (i + 1) m' H') ∧
    ∀ x H', J.yld i H x H' → g x (wipe σ vs) H' fun σ2 H2 => wipe σ2 vs = wipe σ vs ∧ te σ2 H2 fun y H3 => ∃ (k : Int) (S : Int → Bool) (n : Nat), y = .int k ∧ H3 D = some (SetO w D S n) ∧ n + 1 < scanBound ∧
      Nx (upd H3 D (SetO w D (fun j => S j || decide (j = k)) (if S k = true then n else n + 1))))
/-- the slots of the block's own names matter to nobody -/
theorem wipe_weak {X : Cx} {pins : List (Addr × Obj)} {σ : L2.St} {H : Hp} {s : Shared} {vs : List Nat} (I : Inv X pins σ H s) : Inv X pins (wipe σ vs) H s :=
  I.weak (wipe_length σ vs) fun i v h => (wipe_some h).1
theorem set_block {X : Cx} {pins : List (Addr × Obj)} {σ : L2.St} {Hs : Hp} {s3 : Shared} {Q : VK} {elt tg iter : Expr} {scope : Scope} {own : List (PySem.Str × Nat)} {pos : Pos} {g : TG} {te : TE} {J : It} {fp : List Addr} {it D : Addr} {tn : Nat → Heap → Prop} {W : Nat → Nat → Hp → Prop} {m0 : Nat}
    (calm : X.calm = true) (nodup : X.N.Nodup) (ok : BlkOk X.N X.env.scope scope own)
    (goal : ∀ (s : Shared) (H : Hp) (C : Addr) (cl : List (PySem.Str × Addr)) (fp : List Addr), PG (X.blk s H scope (compEnvC scope cl C X.env) fp) tg g)
    (elem : ∀ (s : Shared) (H : Hp) (C : Addr) (cl : List (PySem.Str × Addr)) (fp : List Addr), PE (X.blk s H scope (compEnvC scope cl C X.env) fp) elt te)
    (inv3 : Inv X pins σ Hs s3) (turns : Turn X.prog X.w X.K tg J fp it tn) (start : tn 0 s3.heap) (mine : ∀ b ∈ fp, FpOk X pins Hs b) (w0 : W 0 m0 Hs)
    (step : ∀ i m H, W i m H → (J.stop i H ∧ Q (.ref D) H) ∨ (J.go i H ∧ ∃ Nx : Hp → Prop, (∀ H', Nx H' → ∃ m', m' < m ∧ W (i + 1) m' H') ∧
      ∀ x H', J.yld i H x H' → g x (wipe σ (own.map (·.2))) H' fun σ2 H2 => wipe σ2 (own.map (·.2)) = wipe σ (own.map (·.2)) ∧ te σ2 H2 fun y H3 => ∃ (k : Int) (S : Int → Bool) (n : Nat), y = .int k ∧ H3 D = some (SetO X.w D S n) ∧ n + 1 < scanBound ∧
        Nx (upd H3 D (SetO X.w D (fun j => S j || decide (j = k)) (if S k = true then n else n + 1))))) :
    wpAny (model X.prog X.w) X.A (newFunctionEnv scope X.env.globals (cloFrom X.env.cells scope.names []) [] X.env.qual none .none (some X.env)) (fun cenv s4 =>
      codeAny (model X.prog X.w) X.A (.compStart (.SetComp elt [⟨tg, iter, [], 0⟩] scope pos) 0 (.ref it) (.ref D) { cenv with scope := relabel scope X.env }) (compEnds (model X.prog X.w) X.A X.xe none (EP X pins σ Q) (.ref D) { cenv with scope := relabel scope X.env }) s4) X.xe s3 := by
  have born : ∀ b ∈ fp, b < s3.heap.objs.size := fun b hb => by
    obtain ⟨o, there, _⟩ := turns.obj 0 _ start b hb
    exact Heap.lt_size there
  have inv4 := block_start (fp := fp) inv3 ok nodup fun b hb => ⟨mine b hb, born b hb⟩
  apply newEnv_comp
  have start4 : tn 0 (pushCells (s3.heap.push { cls := .type "dict", data := .dict #[] }) scope.names) := turns.keep 0 _ _ start fun b _ o there => pushCells_keeps _ _ _ _ (Heap.get?_push_of_some _ there)
  have low := inv3.fpOk (H' := Hs) (b := s3.heap.objs.size) (Nat.le_refl _) (inv3.hok.fresh (Nat.le_refl _))
  generalize pushCells (s3.heap.push { cls := .type "dict", data := .dict #[] }) scope.names = h4 at inv4 start4 ⊢
  show codeAny _ _ (.compStart _ 0 _ _ (compEnvC scope (cellsFrom (s3.heap.objs.size + 1) scope.names (cloFrom X.env.cells scope.names [])) s3.heap.objs.size X.env)) (compEnds _ _ _ none _ _ (compEnvC scope (cellsFrom (s3.heap.objs.size + 1) scope.names (cloFrom X.env.cells scope.names [])) s3.heap.objs.size X.env)) _
  generalize cellsFrom (s3.heap.objs.size + 1) scope.names (cloFrom X.env.cells scope.names []) = cl at inv4 ⊢
  have loop : codeAny (model X.prog X.w) X.A (.compLoop (.SetComp elt [⟨tg, iter, [], 0⟩] scope pos) 0 (.ref it) (.ref D) (compEnvC scope cl s3.heap.objs.size X.env)) (compEnds (model X.prog X.w) X.A X.xe none (EP X pins σ Q) (.ref D) (compEnvC scope cl s3.heap.objs.size X.env)) { s3 with heap := h4 } := by
    apply PpSet.compLoopS_any (I := fun n s => ∃ i Hc, Inv (X.blk s3 Hs scope (compEnvC scope cl s3.heap.objs.size X.env) fp) [] (wipe σ (own.map (·.2))) Hc s ∧ tn i s.heap ∧ (∀ b ∈ fp, Hc b = none) ∧ W i n Hc) _ m0 ⟨0, Hs, inv4, start4, fun b hb => (mine b hb).1, w0⟩
    rintro n s5 ⟨i, Hc, inv5, st5, free5, w5⟩
    have own5 : ∀ (H : Hp), (∀ b ∈ fp, H b = none) → ∀ b ∈ fp, FpOk (X.blk s3 Hs scope (compEnvC scope cl s3.heap.objs.size X.env) fp) [] H b := fun H free b hb =>
      ⟨free b hb, (inv5.ok.exf b hb).1, inv5.ok.exfs b hb, .inl hb, (inv5.ok.exf b hb).2, fun p hp => by cases hp⟩
    rcases step i n Hc w5 with ⟨stop, q⟩ | ⟨go, Nx, next, yields⟩
    · apply wpAny_mono (turns.done (X.blk s3 Hs scope (compEnvC scope cl s3.heap.objs.size X.env) fp) rfl rfl rfl calm i [] s5 _ Hc _ inv5 (own5 Hc free5) st5 stop) _ (fun _ _ raised => raised)
      rintro r s6 ⟨rfl, inv6⟩
      obtain ⟨names, ns, _⟩ := inv6.loc
      refine ⟨names, ns, fun h' same => ?_⟩
      have out : Inv X pins σ Hc s6 := inv3.call' inv6.os inv6.base inv6.hok inv6.bare fun b hb => ⟨(mine b hb).2.2.2.1, (mine b hb).2.1, (mine b hb).2.2.2.2.1, (mine b hb).2.2.2.2.2⟩
      exact ⟨.ref D, Hc, out.turned (t' := s6.toks) (fun b o hb there => (same.2 b hb).trans there) inv6.free low.2.1 low.2.2.2.1 low.2.2.2.2.1 low.2.2.2.2.2, rfl, q⟩
    · apply wpAny_mono (turns.item (X.blk s3 Hs scope (compEnvC scope cl s3.heap.objs.size X.env) fp) rfl rfl rfl calm i [] s5 _ Hc _ inv5 (own5 Hc free5) st5 go) _ (fun _ _ raised => raised)
      rintro r s6 ⟨u, rfl, rest⟩
      apply wpAny_mono rest _ (fun _ _ raised => raised)
      rintro _ s7 ⟨x, H7, inv7, rel, yld, st7, free7⟩
      have held := inv7.pinned (own5 H7 free7) (turns.obj _ _ st7)
      apply wpAny_mono ((goal s3 Hs s3.heap.objs.size cl fp).run _ s7 _ H7 x u _ held rel (yields x H7 yld)) _ (fun _ _ raised => raised.elim)
      rintro _ s8 ⟨σ8, H8, inv8, wiped, more⟩
      apply wpAny_tests_nil
      rw [if_pos rfl]
      apply wpAny_mono ((elem s3 Hs s3.heap.objs.size cl fp).run _ s8 σ8 H8 _ inv8 more) _ (fun _ _ raised => raised.elim)
      rintro u9 s9 ⟨y, H9, inv9, rel9, k, S, c, rfl, atD, room, nx⟩
      rcases rel9 with ⟨tok, rfl⟩
      apply setR_add (setO_get inv9 atD) room
      intro h10 same10 set10
      have inv10 := inv9.write (e := D) (h' := h10) (t' := s9.toks + 1) (by rw [atD]; trivial) (.inl rfl) (fun b o hb there => (same10.2 b hb).trans there) (set10.imp fun o r => by obtain ⟨_, _, _, there, _⟩ := r; exact there) (setO_new set10)
      obtain ⟨m1, less, w1⟩ := next _ nx
      refine ⟨m1, less, i + 1, _, ?_, ?_, ?_, w1⟩
      · rw [← wiped]
        exact wipe_weak inv10.unpinned
      · refine turns.keep (i + 1) _ _ st7 fun b hb o there => ?_
        exact (inv10.pin (b, o) (List.mem_append_right _ (List.mem_append_right _ (mem_pinsAt hb there)))).1
      · intro b hb
        obtain ⟨o, there, _⟩ := turns.obj _ _ st7 b hb
        exact (inv10.pin (b, o) (List.mem_append_right _ (List.mem_append_right _ (mem_pinsAt hb there)))).2.1
  exact PpSet.codeAny_compStart_set loop (turns.self _ 0 _ _ _ start4 loop)
theorem pe_setI {X : Cx} {elt tg iter : Expr} {scope : Scope} {own : List (PySem.Str × Nat)} {pos : Pos} {wi : TI} {g : TG} {te : TE} (calm : X.calm = true) (nodup : X.N.Nodup) (walk : PI X tg iter wi) (ok : BlkOk X.N X.env.scope scope own)
    (goal : ∀ (s : Shared) (H : Hp) (C : Addr) (cl : List (PySem.Str × Addr)) (fp : List Addr), PG (X.blk s H scope (compEnvC scope cl C X.env) fp) tg g)
    (elem : ∀ (s : Shared) (H : Hp) (C : Addr) (cl : List (PySem.Str × Addr)) (fp : List Addr), PE (X.blk s H scope (compEnvC scope cl C X.env) fp) elt te)
    (unfolded : ∀ x, foldedSetIterable iter X.env x = pure x := by intro _; rfl) :
    PE X (.SetComp elt [⟨tg, iter, [], 0⟩] scope pos) (tSetI X.w wi g te (own.map (·.2))) where
  run pins s σ H Q inv ask := by
    have caught : ∀ y ∈ scope.names, y.2 = .free → ∃ c, X.env.cells.lookup y.1 = some c := fun y hy free => by
      rcases ok.free y hy free with k | k
      · exact inv.ok.has _ (.inl k)
      · exact inv.ok.has _ (.inr k)
    rw [PySem.arm_eval_SetComp]
    apply comprehension_at (use := none) rfl unfolded (closure_ok caught) ok.kind (fun y hy hl => by rw [ok.uniq y hy, hl])
    apply wpAny_mono (walk.run pins s σ H _ inv ask) _ (fun _ _ raised => raised)
    intro v s1 run1
    apply wpAny_mono run1 _ (fun _ _ raised => raised)
    rintro itv s2 ⟨it, fp, tn, J, H1, rfl, inv2, turns, start, mine, plan⟩
    apply PpSet.newSet_ok
    have freeD : H1 s2.heap.objs.size = none := inv2.hok.fresh (Nat.le_refl _)
    obtain ⟨W, ⟨m0, w0⟩, step⟩ := plan _ freeD
    have inv3 : Inv X pins σ (upd H1 s2.heap.objs.size (SetO X.w s2.heap.objs.size (fun _ => false) 0)) { s2 with heap := s2.heap.push { cls := .type "set", dict := none, data := .set #[] 0 (.fresh 0 0 (!X.w.params.followText "set-order")) } } :=
      inv2.laid (t' := s2.toks) (fun b u e => Heap.get?_push_of_some _ e) (Nat.le_refl _) (setO_new (setR_fresh X.w))
    have stays : ∀ b o, s2.heap.get? b = some o → (s2.heap.push { cls := .type "set", dict := none, data := .set #[] 0 (.fresh 0 0 (!X.w.params.followText "set-order")) }).get? b = some o := fun b o e => Heap.get?_push_of_some _ e
    have born : ∀ b ∈ fp, b < s2.heap.objs.size := fun b hb => by
      obtain ⟨o, there, _⟩ := turns.obj 0 _ start b hb
      exact Heap.lt_size there
    exact set_block calm nodup ok goal elem inv3 turns (turns.keep 0 _ _ start fun b _ o there => stays b o there) (fun b hb => ⟨by rw [upd_ne (Nat.ne_of_lt (born b hb))]; exact (mine b hb).1, (mine b hb).2⟩) w0 step
/-- its walk over a tuple, which stands still meanwhile -/
theorem setI_tup {w : World} {K : PySem.W.Frag} {a : Addr} {xs : List V} {g : TG} {te : TE} {vs : List Nat} {σ : L2.St} {H1 : Hp} {D : Addr} {Qd : Hp → Prop} (Pv : Nat → Hp → Prop) (begin_ : Pv 0 (upd H1 D (SetO w D (fun _ => false) 0)))
    (stands : ∀ i H, i ≤ xs.length → Pv i H → SqT K H a xs)
    (turn : ∀ i x H, xs[i]? = some x → Pv i H → g x (wipe σ vs) H fun σ2 H2 => wipe σ2 vs = wipe σ vs ∧ te σ2 H2 fun y H3 => ∃ (k : Int) (S : Int → Bool) (n : Nat), y = .int k ∧ H3 D = some (SetO w D S n) ∧ n + 1 < scanBound ∧
      Pv (i + 1) (upd H3 D (SetO w D (fun j => S j || decide (j = k)) (if S k = true then n else n + 1))))
    (ends : ∀ H, Pv xs.length H → Qd H) :
    ∃ W : Nat → Nat → Hp → Prop, (∃ m, W 0 m (upd H1 D (SetO w D (fun _ => false) 0))) ∧ ∀ i m H, W i m H → ((Itt K a).stop i H ∧ Qd H) ∨ ((Itt K a).go i H ∧ ∃ Nx : Hp → Prop, (∀ H', Nx H' → ∃ m', m' < m ∧ W (i + 1) m' H') ∧
      ∀ x H', (Itt K a).yld i H x H' → g x (wipe σ vs) H' fun σ2 H2 => wipe σ2 vs = wipe σ vs ∧ te σ2 H2 fun y H3 => ∃ (k : Int) (S : Int → Bool) (n : Nat), y = .int k ∧ H3 D = some (SetO w D S n) ∧ n + 1 < scanBound ∧
        Nx (upd H3 D (SetO w D (fun j => S j || decide (j = k)) (if S k = true then n else n + 1)))) := by
  refine ⟨fun i m H => i + m = xs.length ∧ Pv i H, ⟨xs.length, Nat.zero_add _, begin_⟩, ?_⟩
  rintro i m H ⟨left, here⟩
  have there : SqT K H a xs := stands i H (by omega) here
  cases m with
  | zero =>
    have e : i = xs.length := left
    subst e
    exact .inl ⟨⟨xs, there, Nat.le_refl _⟩, ends H here⟩
  | succ m =>
    have lt : i < xs.length := by omega
    refine .inr ⟨⟨xs, xs[i], there, List.getElem?_eq_getElem lt⟩, Pv (i + 1), fun H' p => ⟨m, Nat.lt_succ_self _, by omega, p⟩, ?_⟩
    rintro x H' ⟨rfl, item⟩
    exact turn i x H' (item xs there) here
/-- len of a set of ints -/
theorem call_lenI {X : Cx} : CallR X (.builtin "len") (fun given H Q => ∃ (a : Addr) (S : Int → Bool) (n : Nat), given = [.ref a] ∧ H a = some (SetO X.w a S n) ∧ n ≤ 1000 ∧ Q (.int (n : Int)) H) :=
  fun pins s σ H given held Q inv rel ask => by
    rcases ask with ⟨a, S, n, rfl, at_a, short, hand⟩
    match held, rel with
    | [_], .cons rfl .nil =>
      obtain ⟨o, es, ep, t, there, exact_, dat, _, _, _, _, fits, rfl, _⟩ := setO_get inv at_a
      apply call_len_set there exact_ dat fits (by omega)
      exact ⟨.int _, H, inv.tok _, ⟨_, rfl⟩, hand⟩
end Tm

/-! strings of the letters 1, X, Z, W: what their products are -/
namespace Tm
open PySem PySem.Spec PyProof.Rows L2
/-! ### the letters -/
def Al : List Nat := [49, 88, 90, 87]
def pP (a b : Nat) : List Nat := ([([49, 49], [49]), ([49, 88], [88]), ([49, 90], [90]), ([49, 87], [87]), ([88, 49], [88]), ([88, 88], [49]), ([88, 90], [87]), ([88, 87], [90]), ([90, 49], [90]), ([90, 88], [45, 87]), ([90, 90], [49]), ([90, 87], [45, 88]),
  ([87, 49], [87]), ([87, 88], [45, 90]), ([87, 90], [88]), ([87, 87], [45, 49])].lookup [a, b]).getD []
def pS (a b : Nat) : Nat := signL (pP a b)
def pL (a b : Nat) : Nat := (lettersL (pP a b)).headD 0
theorem p_form : ∀ a ∈ Al, ∀ b ∈ Al, lettersL (pP a b) = [pL a b] ∧ pL a b ∈ Al ∧ pS a b ≤ 1 ∧ (pP a b).length ≤ 2 := by decide +kernel
theorem p_assoc : ∀ a ∈ Al, ∀ b ∈ Al, ∀ c ∈ Al, pL (pL a b) c = pL a (pL b c) ∧ (pS a b + pS (pL a b) c) % 2 = (pS b c + pS a (pL b c)) % 2 := by decide +kernel
theorem p_comm : ∀ a ∈ Al, ∀ b ∈ Al, pL a b = pL b a := by decide +kernel
theorem p_self : ∀ a ∈ Al, pL a a = 49 ∧ pS a a = if a = 87 then 1 else 0 := by decide +kernel
theorem p_one : ∀ a ∈ Al, pL a 49 = a ∧ pS a 49 = 0 := by decide +kernel
theorem p_lin : ∀ a ∈ Al, ∀ b ∈ Al, ∀ c ∈ Al, (pS a (pL b c) + pS (pL b c) a) % 2 = (pS a b + pS b a + (pS a c + pS c a)) % 2 := by decide +kernel
/-! ### rows of letters -/
def Al4 (cs : List Nat) : Prop := ∀ c ∈ cs, c ∈ Al
theorem Al4.head {c : Nat} {cs : List Nat} (h : Al4 (c :: cs)) : c ∈ Al := h c List.mem_cons_self
theorem Al4.tail {c : Nat} {cs : List Nat} (h : Al4 (c :: cs)) : Al4 cs := fun x hx => h x (List.mem_cons_of_mem _ hx)
theorem Al4.lt {cs : List Nat} (h : Al4 cs) : Lt cs := fun c hc e => by
  subst e
  exact absurd (h _ hc) (by decide)
def zS (as bs : List Nat) : Nat := (List.zipWith pS as bs).sum
def zL (as bs : List Nat) : List Nat := List.zipWith pL as bs
theorem zS_cons (a b : Nat) (as bs : List Nat) : zS (a :: as) (b :: bs) = pS a b + zS as bs := by
  show (pS a b :: List.zipWith pS as bs).sum = _
  rw [List.sum_cons]; rfl
theorem zL_cons (a b : Nat) (as bs : List Nat) : zL (a :: as) (b :: bs) = pL a b :: zL as bs := rfl
theorem zL_len {as bs : List Nat} (h : as.length = bs.length) : (zL as bs).length = as.length := by
  show (List.zipWith pL as bs).length = _
  rw [List.length_zipWith]; omega
theorem zL_al : ∀ {as bs : List Nat}, Al4 as → Al4 bs → Al4 (zL as bs)
  | [], _, _, _ => fun c hc => by cases hc
  | _ :: _, [], _, _ => fun c hc => by cases hc
  | a :: as, b :: bs, ha, hb => by
    intro c hc
    rw [zL_cons] at hc
    rcases List.mem_cons.mp hc with rfl | hc
    · exact (p_form a ha.head b hb.head).2.1
    · exact zL_al ha.tail hb.tail c hc
theorem z_assoc : ∀ (as bs cs : List Nat), as.length = bs.length → bs.length = cs.length → Al4 as → Al4 bs → Al4 cs → zL (zL as bs) cs = zL as (zL bs cs) ∧ (zS as bs + zS (zL as bs) cs) % 2 = (zS bs cs + zS as (zL bs cs)) % 2
  | [], [], [], _, _, _, _, _ => ⟨rfl, rfl⟩
  | a :: as, b :: bs, c :: cs, h1, h2, ha, hb, hc => by
    have i := z_assoc as bs cs (Nat.succ.inj h1) (Nat.succ.inj h2) ha.tail hb.tail hc.tail
    have p := p_assoc a ha.head b hb.head c hc.head
    simp only [zL_cons, zS_cons]
    exact ⟨by rw [p.1, i.1], by have := p.2; have := i.2; omega⟩
theorem z_comm : ∀ (as bs : List Nat), as.length = bs.length → Al4 as → Al4 bs → zL as bs = zL bs as
  | [], [], _, _, _ => rfl
  | a :: as, b :: bs, h, ha, hb => by
    rw [zL_cons, zL_cons, z_comm as bs (Nat.succ.inj h) ha.tail hb.tail, p_comm a ha.head b hb.head]
theorem z_self : ∀ (as : List Nat), Al4 as → zL as as = List.replicate as.length 49 ∧ zS as as = as.count 87
  | [], _ => ⟨rfl, rfl⟩
  | a :: as, ha => by
    have i := z_self as ha.tail
    have p := p_self a ha.head
    rw [zL_cons, zS_cons, i.1, i.2, p.1, p.2, List.count_cons]
    refine ⟨rfl, ?_⟩
    by_cases e : a = 87
    · subst e; simp [Nat.add_comm]
    · rw [if_neg e, if_neg (by simpa using e)]; omega
theorem z_one : ∀ (as : List Nat), Al4 as → zL as (List.replicate as.length 49) = as ∧ zS as (List.replicate as.length 49) = 0
  | [], _ => ⟨rfl, rfl⟩
  | a :: as, ha => by
    have i := z_one as ha.tail
    have p := p_one a ha.head
    rw [List.length_cons, List.replicate_succ, zL_cons, zS_cons, i.1, i.2, p.1, p.2]
    exact ⟨rfl, rfl⟩
theorem z_lin : ∀ (as bs cs : List Nat), as.length = bs.length → bs.length = cs.length → Al4 as → Al4 bs → Al4 cs → (zS as (zL bs cs) + zS (zL bs cs) as) % 2 = (zS as bs + zS bs as + (zS as cs + zS cs as)) % 2
  | [], [], [], _, _, _, _, _ => rfl
  | a :: as, b :: bs, c :: cs, h1, h2, ha, hb, hc => by
    have i := z_lin as bs cs (Nat.succ.inj h1) (Nat.succ.inj h2) ha.tail hb.tail hc.tail
    have p := p_lin a ha.head b hb.head c hc.head
    simp only [zL_cons, zS_cons]
    omega
theorem al_ones (n : Nat) : Al4 (List.replicate n 49) := fun c hc => by rw [List.eq_of_mem_replicate hc]; decide
/-! ### strings: texts of letters with a sign -/
def od (n : Nat) : Bool := decide (n % 2 = 1)
theorem od_nat (n : Nat) : (od n).toNat = n % 2 := by
  unfold od
  rcases Nat.mod_two_eq_zero_or_one n with h | h
  · rw [h]; rfl
  · rw [h]; rfl
theorem od_eq {m n : Nat} (h : m % 2 = n % 2) : od m = od n := by unfold od; rw [h]
theorem od_bit (b : Bool) : od b.toNat = b := by cases b <;> rfl
def two (x y : List Nat) : List Nat := signedL ((signL x + signL y + zS (lettersL x) (lettersL y) : Nat) : Int) (zL (lettersL x) (lettersL y))
theorem signed_od (n : Nat) (cs : List Nat) : signedL ((n : Nat) : Int) cs = wd (od n) cs := by
  rw [signed_wd]
  unfold od
  have e : decide (((n : Nat) : Int) % 2 = 1) = decide (n % 2 = 1) := by
    by_cases h : n % 2 = 1
    · rw [decide_eq_true h, decide_eq_true (by omega)]
    · rw [decide_eq_false h, decide_eq_false (by omega)]
  rw [e]
theorem two_wd {s t : Bool} {as bs : List Nat} (ha : Al4 as) (hb : Al4 bs) : two (wd s as) (wd t bs) = wd (od (s.toNat + t.toNat + zS as bs)) (zL as bs) := by
  unfold two
  rw [sign_wd ha.lt, sign_wd hb.lt, letters_wd ha.lt, letters_wd hb.lt, signed_od]
def multL : List (List Nat) → List Nat
  | [] => []
  | x :: r => r.foldl two x
/-- a string of n letters -/
def Sn (n : Nat) (x : List Nat) : Prop := ∃ s cs, x = wd s cs ∧ cs.length = n ∧ Al4 cs
theorem Sn.two {n : Nat} {x y : List Nat} (hx : Sn n x) (hy : Sn n y) : Sn n (two x y) := by
  obtain ⟨s, as, rfl, la, ha⟩ := hx
  obtain ⟨t, bs, rfl, lb, hb⟩ := hy
  exact ⟨_, _, two_wd ha hb, by rw [zL_len (by omega)]; exact la, zL_al ha hb⟩
theorem Sn.fold {n : Nat} : ∀ {r : List (List Nat)} {x : List Nat}, Sn n x → (∀ y ∈ r, Sn n y) → Sn n (r.foldl Tm.two x)
  | [], _, hx, _ => hx
  | y :: r, x, hx, hr => Sn.fold (r := r) (hx.two (hr y List.mem_cons_self)) fun z hz => hr z (List.mem_cons_of_mem _ hz)
theorem Sn.len {n : Nat} {x : List Nat} (h : Sn n x) : x.length ≤ n + 1 ∧ (lettersL x).length = n ∧ Al4 (lettersL x) := by
  obtain ⟨s, cs, rfl, l, a⟩ := h
  refine ⟨?_, by rw [letters_wd a.lt]; exact l, by rw [letters_wd a.lt]; exact a⟩
  rw [wd_len, l]
  cases s
  · exact Nat.le_succ _
  · exact Nat.le_refl _
theorem Sn.one (n : Nat) : Sn n (List.replicate n 49) := ⟨false, _, rfl, List.length_replicate, al_ones n⟩
theorem two_assoc {n : Nat} {x y z : List Nat} (hx : Sn n x) (hy : Sn n y) (hz : Sn n z) : two (two x y) z = two x (two y z) := by
  obtain ⟨s, as, rfl, la, ha⟩ := hx
  obtain ⟨t, bs, rfl, lb, hb⟩ := hy
  obtain ⟨u, cs, rfl, lc, hc⟩ := hz
  have a := z_assoc as bs cs (by omega) (by omega) ha hb hc
  rw [two_wd ha hb, two_wd hb hc, two_wd (zL_al ha hb) hc, two_wd ha (zL_al hb hc), a.1, od_nat, od_nat]
  congr 1
  apply od_eq
  have := a.2
  omega
theorem two_body {n : Nat} {x y : List Nat} (hx : Sn n x) (hy : Sn n y) : lettersL (two x y) = lettersL (two y x) := by
  obtain ⟨s, as, rfl, la, ha⟩ := hx
  obtain ⟨t, bs, rfl, lb, hb⟩ := hy
  rw [two_wd ha hb, two_wd hb ha, letters_wd (zL_al ha hb).lt, letters_wd (zL_al hb ha).lt, z_comm as bs (by omega) ha hb]
theorem two_self {s : Bool} {cs : List Nat} (h : Al4 cs) : two (wd s cs) (wd s cs) = wd (od (cs.count 87)) (List.replicate cs.length 49) := by
  rw [two_wd h h, (z_self cs h).1, (z_self cs h).2]
  congr 1
  apply od_eq
  cases s <;> simp
theorem two_one {n : Nat} {x : List Nat} (hx : Sn n x) : two x (List.replicate n 49) = x := by
  obtain ⟨s, as, rfl, la, ha⟩ := hx
  have e : List.replicate n 49 = wd false (List.replicate as.length 49) := by rw [la]; rfl
  rw [e, two_wd ha (al_ones _), (z_one as ha).1, (z_one as ha).2]
  congr 1
  exact od_bit s
theorem two_four {n : Nat} {x : List Nat} (hx : Sn n x) : two (two (two x x) x) x = List.replicate n 49 := by
  obtain ⟨s, as, rfl, la, ha⟩ := hx
  have e1 := two_self (s := s) ha
  have e2 : two (two (two (wd s as) (wd s as)) (wd s as)) (wd s as) = two (two (wd s as) (wd s as)) (two (wd s as) (wd s as)) := by
    refine two_assoc (n := n) ?_ ⟨s, as, rfl, la, ha⟩ ⟨s, as, rfl, la, ha⟩
    exact Sn.two ⟨s, as, rfl, la, ha⟩ ⟨s, as, rfl, la, ha⟩
  rw [e2, e1, two_self (al_ones _)]
  have e3 : (List.replicate as.length 49).count 87 = 0 := by rw [List.count_replicate]; rfl
  rw [e3, List.length_replicate, la]
  rfl
/-- whether two strings commute -/
def cmB (x y : List Nat) : Bool := decide (two x y = two y x)
theorem cm_wd {s t : Bool} {as bs : List Nat} (ha : Al4 as) (hb : Al4 bs) (l : as.length = bs.length) : cmB (wd s as) (wd t bs) = decide ((zS as bs + zS bs as) % 2 = 0) := by
  unfold cmB
  rw [two_wd ha hb, two_wd hb ha, z_comm bs as l.symm hb ha]
  have inj : ∀ (a b : Bool) (cs : List Nat), wd a cs = wd b cs → a = b := by
    intro a b cs e
    have e2 := congrArg List.length e
    rw [wd_len, wd_len] at e2
    cases a <;> cases b <;> first | rfl | (simp at e2)
  have key : (od (s.toNat + t.toNat + zS as bs) = od (t.toNat + s.toNat + zS bs as)) ↔ (zS as bs + zS bs as) % 2 = 0 := by
    unfold od
    rw [decide_eq_decide]
    omega
  by_cases h : (zS as bs + zS bs as) % 2 = 0
  · rw [decide_eq_true h, key.mpr h]; exact decide_eq_true rfl
  · rw [decide_eq_false h]
    exact decide_eq_false fun e => h (key.mp (inj _ _ _ e))
theorem cm_lin {n : Nat} {x y z : List Nat} (hx : Sn n x) (hy : Sn n y) (hz : Sn n z) : cmB x (two y z) = (cmB x y == cmB x z) := by
  obtain ⟨s, as, rfl, la, ha⟩ := hx
  obtain ⟨t, bs, rfl, lb, hb⟩ := hy
  obtain ⟨u, cs, rfl, lc, hc⟩ := hz
  have lin := z_lin as bs cs (by omega) (by omega) ha hb hc
  rw [two_wd hb hc, cm_wd ha (zL_al hb hc) (by rw [zL_len (by omega)]; omega), cm_wd ha hb (by omega), cm_wd ha hc (by omega)]
  have q1 := Nat.mod_two_eq_zero_or_one (zS as bs + zS bs as)
  have q2 := Nat.mod_two_eq_zero_or_one (zS as cs + zS cs as)
  rcases q1 with q1 | q1 <;> rcases q2 with q2 | q2 <;> (rw [q1, q2]; first | (rw [show (zS as (zL bs cs) + zS (zL bs cs) as) % 2 = 0 by omega]; rfl) | (rw [show (zS as (zL bs cs) + zS (zL bs cs) as) % 2 = 1 by omega]; rfl))
/-! ### a sign written n times; how often a sign stands in a text -/
theorem mul_ones (c n : Nat) : Txt.mul ⟨#[c]⟩ ((n : Nat) : Int) = txt (List.replicate n c) := by
  unfold Txt.mul
  cases n with
  | zero => rfl
  | succ n =>
    have h1 : ¬ (((n + 1 : Nat)) : Int) < 1 := by omega
    rw [if_neg h1]
    have join : ∀ (k : Nat) (a : Array Nat), (List.replicate k #[c]).foldl (· ++ ·) a = a ++ (List.replicate k c).toArray := by
      intro k
      induction k with
      | zero => intro a; simp
      | succ k ih =>
        intro a
        rw [List.replicate_succ, List.foldl_cons, ih, List.replicate_succ]
        apply Array.toList_inj.mp
        simp
    by_cases h2 : ((((n + 1 : Nat)) : Int) == 1 || (⟨#[c]⟩ : Str).length == 0) = true
    · rw [if_pos h2]
      have e : n = 0 := by
        rcases Bool.or_eq_true_iff.mp h2 with q | q
        · have := (beq_iff_eq.mp q); omega
        · cases q
      subst e
      rfl
    · rw [if_neg h2]
      have e : (((n + 1 : Nat)) : Int).toNat = n + 1 := rfl
      rw [e]
      show (⟨(List.replicate (n + 1) #[c]).foldl (· ++ ·) #[]⟩ : Str) = ⟨(List.replicate (n + 1) c).toArray⟩
      rw [join, Array.empty_append]
theorem op_times {X : Cx} : OpR X (binaryOp .Mult) (fun x y H Q => ∃ c n : Nat, x = sig c ∧ y = .int ((n : Nat) : Int) ∧ n ≤ 1000 ∧ Q (.str (txt (List.replicate n c))) H) := by
  rintro pins s σ H x y v u Q inv rx ry ⟨c, n, rfl, rfl, few, hand⟩
  rcases rx with ⟨t, rfl⟩
  rcases ry with ⟨t2, rfl⟩
  apply SB.mul
  · refine ⟨?_, fun h1 h2 => ?_, fun h1 h2 => ?_⟩
    · simp only [Bool.or_eq_false_iff, decide_eq_false_iff_not]; omega
    · show ¬ ((1 : Int) > _)
      have : (1 : Int) ≤ (2 ^ 63 - 1) / ((n : Nat) : Int) := by
        rw [Int.le_ediv_iff_mul_le (by omega)]; omega
      omega
    · unfold Builtin.Str.tooLong
      have small : (1 : Nat) * ((n : Nat) : Int).toNat ≤ sizeLine := by
        rw [Nat.one_mul]
        exact Nat.le_trans few (by decide)
      exact decide_eq_false (Nat.not_lt.mpr small)
  · intro t' k
    rw [mul_ones]
    exact ⟨.str _, H, inv.tok _, ⟨_, rfl⟩, hand⟩
theorem count_txt (cs : List Nat) (c : Nat) : Txt.count (txt cs) ⟨#[c]⟩ = ((cs.count c : Nat) : Int) := by
  rw [count_is, txt_cps]
  show cnt c cs = _
  induction cs with
  | nil => rfl
  | cons n r ih =>
    rw [cnt_cons, ih, List.count_cons]
    by_cases e : n = c
    · subst e; simp; omega
    · rw [if_neg e, if_neg (by simpa using e)]; omega
/-! ### what the defs promise -/
theorem txt_al : Str.ofString "1XZW" = txt Al := by decide +kernel
theorem all_al {cs : List Nat} (h : Al4 cs) : (cs.all fun c => decide (c ∈ Al)) = true := List.all_eq_true.mpr fun c hc => decide_eq_true (h c hc)
def spIsStr : Sp := fun vs H Q _ => ∃ ts : List Nat, vs = [tv ts] ∧ ts.length ≤ 1000 ∧ ∀ H', Same H H' → Q (.bl ((lettersL ts).all fun c => decide (c ∈ Al))) H'
def spChkS : Sp := fun vs H Q _ => ∃ ts : List Nat, vs = [tv ts] ∧ ts.length ≤ 1000 ∧ Al4 (lettersL ts) ∧ ∀ H', Same H H' → Q .non H'
def spTwo : Sp := fun vs H Q _ => ∃ (n : Nat) (x y : List Nat), vs = [tv x, tv y] ∧ n ≤ 900 ∧ Sn n x ∧ Sn n y ∧ ∀ H', Same H H' → Q (tv (two x y)) H'
def spMult : Sp := fun vs H Q _ => ∃ (n : Nat) (xss : List (List Nat)), vs = xss.map tv ∧ n ≤ 900 ∧ xss.length ≤ 20 ∧ (∀ x ∈ xss, Sn n x) ∧ ∀ H', Same H H' → Q (tv (multL xss)) H'
def spMultT : Sp := fun vs H Q _ => ∃ (p : Addr) (n : Nat) (xss : List (List Nat)), vs = [.ref p] ∧ H p = some (.tup (xss.map tv)) ∧ n ≤ 900 ∧ xss.length ≤ 20 ∧ (∀ x ∈ xss, Sn n x) ∧ ∀ H', Same H H' → Q (tv (multL xss)) H'
def spComm : Sp := fun vs H Q _ => ∃ (n : Nat) (x y : List Nat), vs = [tv x, tv y] ∧ n ≤ 900 ∧ Sn n x ∧ Sn n y ∧ ∀ H', Same H H' → Q (.bl (cmB x y)) H'
def spIden : Sp := fun vs H Q _ => ∃ n : Nat, vs = [.int ((n : Nat) : Int)] ∧ n ≤ 900 ∧ Q (tv (List.replicate n 49)) H
/-- the texts of the products of letters -/
def prodsL (as bs : List Nat) : List (List Nat) := List.zipWith pP as bs
theorem prods_at : ∀ {as bs : List Nat} {i a b : Nat}, as[i]? = some a → bs[i]? = some b → (prodsL as bs)[i]? = some (pP a b) := by
  intro as bs i a b ha hb
  unfold prodsL
  rw [List.getElem?_zipWith, ha, hb]
theorem prods_al : ∀ {as bs : List Nat}, Al4 as → Al4 bs → ∀ x ∈ prodsL as bs, ∃ a ∈ Al, ∃ b ∈ Al, x = pP a b
  | [], _, _, _, x, hx => by cases hx
  | _ :: _, [], _, _, x, hx => by cases hx
  | a :: as, b :: bs, ha, hb, x, hx => by
    rcases List.mem_cons.mp hx with rfl | hx
    · exact ⟨a, ha.head, b, hb.head, rfl⟩
    · exact prods_al ha.tail hb.tail x hx
theorem prods_sign : ∀ (as bs : List Nat), ((prodsL as bs).map signL).sum = zS as bs
  | [], _ => rfl
  | _ :: _, [] => rfl
  | a :: as, b :: bs => by
    rw [zS_cons, ← prods_sign as bs]
    show (signL (pP a b) :: (prodsL as bs).map signL).sum = _
    rw [List.sum_cons]; rfl
theorem prods_letters : ∀ (as bs : List Nat), Al4 as → Al4 bs → ((prodsL as bs).map lettersL).flatten = zL as bs
  | [], _, _, _ => rfl
  | _ :: _, [], _, _ => rfl
  | a :: as, b :: bs, ha, hb => by
    rw [zL_cons, ← prods_letters as bs ha.tail hb.tail]
    show lettersL (pP a b) ++ ((prodsL as bs).map lettersL).flatten = _
    rw [(p_form a ha.head b hb.head).1]
    rfl
theorem cutV_drop (xs : List V) (k : Nat) : cutV xs (some (k : Int)) none = xs.drop k := by
  unfold cutV
  rw [HT.sIx_none, HT.sIx_nat]
  by_cases h : k ≤ xs.length
  · rw [Nat.min_eq_left h]
    exact List.take_of_length_le (by rw [List.length_drop]; exact Nat.le_refl _)
  · rw [Nat.min_eq_right (by omega), List.drop_of_length_le (Nat.le_refl _), List.drop_of_length_le (l := xs) (by omega)]
    exact List.take_nil
theorem fold_snoc (r : List (List Nat)) (x y : List Nat) : (r ++ [y]).foldl two x = two (r.foldl two x) y := by rw [List.foldl_append]; rfl
theorem self_sign {n : Nat} {x : List Nat} (hx : Sn n x) : two x x = signedL ((x.count 87 : Nat) : Int) (List.replicate n 49) := by
  obtain ⟨s, cs, rfl, l, a⟩ := hx
  have e : (wd s cs).count 87 = cs.count 87 := by
    cases s with
    | false => rfl
    | true => exact List.count_cons_of_ne (by decide)
  rw [two_self a, e, signed_od, l]
theorem self_body {n : Nat} {x : List Nat} (hx : Sn n x) : lettersL (two x x) = List.replicate n 49 := by
  obtain ⟨s, cs, rfl, l, a⟩ := hx
  rw [two_self a, letters_wd (al_ones _).lt, l]
def spString : Sp := fun vs H Q _ => ∃ (b l : Addr) (n : Nat), vs = [.ref b, .int ((n : Nat) : Int)] ∧ Bag H b l ∧ n ≤ 900 ∧ ∀ H' x, Kp b H H' → Bag H' b l → Sn n x → Q (tv x) H'
theorem ne_no {a b : V} (h : a = b) : (!decide (a = b)) = false := by rw [decide_eq_true h]; rfl
def five : List Nat := [49, 49, 88, 90, 87]
theorem txt_five : Str.ofString "11XZW" = txt five := by decide +kernel
/-! ### the written table of products -/
def ptab : List (String × String) := [("11", "1"), ("1X", "X"), ("1Z", "Z"), ("1W", "W"), ("X1", "X"), ("XX", "1"), ("XZ", "W"), ("XW", "Z"), ("Z1", "Z"), ("ZX", "-W"), ("ZZ", "1"), ("ZW", "-X"), ("W1", "W"), ("WX", "-Z"), ("WZ", "X"), ("WW", "-1")]
theorem ptab_all : ∀ a ∈ Al, ∀ b ∈ Al, ∃ p ∈ ptab, Str.ofString p.1 = txt [a, b] ∧ Str.ofString p.2 = txt (pP a b) := by decide +kernel
theorem kd_all {K : PySem.W.Frag} {w : World} {pd : Addr} {es : Array DictEntry} {n : Nat} (there : K.lookup pd = some ⟨.type "dict", none, .dict es n, #[]⟩) (lit : PySem.W.KeysLit w.params es.toList)
    (rows : ∀ p ∈ ptab, ∃ t, PySem.W.nsIn K pd (Str.ofString p.1) = some (some (.str (Str.ofString p.2) t))) : ∀ a ∈ Al, ∀ b ∈ Al, KDct K w pd (txt [a, b]) (tv (pP a b)) := by
  intro a ha b hb
  obtain ⟨p, hp, e1, e2⟩ := ptab_all a ha b hb
  obtain ⟨t, row⟩ := rows p hp
  rw [e1, e2] at row
  exact ⟨es, n, _, there, lit, row, ⟨t, rfl⟩⟩
end Tm

/-! a written dict of sixteen texts -/
namespace Tm
open PySem PySem.Spec PyProof.Rows L2
/-- keys and values that are written texts -/
inductive Lits (X : Cx) : List (Option Expr) → List Expr → List (Str × Str) → Prop where
  | nil : Lits X [] [] []
  | cons {k v : Expr} {ks : List (Option Expr)} {vs : List Expr} {ps : List (Str × Str)} {a b : Str} (hk : PE X k (tC (.str a))) (hv : PE X v (tC (.str b))) (rest : Lits X ks vs ps) : Lits X (some k :: ks) (v :: vs) ((a, b) :: ps)
def kvT (p : Str × Str) : Key × V := (Sum.inr p.1, .str p.2)
theorem Lits.all {X : Cx} {ks : List (Option Expr)} {vs : List Expr} {ps : List (Str × Str)} (h : Lits X ks vs ps) : ks.all (·.isSome) = true ∧ ks.length = vs.length ∧ ks.length = ps.length := by
  induction h with
  | nil => exact ⟨rfl, rfl, rfl⟩
  | cons _ _ _ ih => exact ⟨by simpa using ih.1, by simp [ih.2.1], by rw [List.length_cons, List.length_cons, ih.2.2]⟩
theorem fill_lits {X : Cx} {pins : List (Addr × Obj)} {σ : L2.St} {d : Addr} {pos : Pos} {f : Sem Value × Sem Value → PUnit → Sem (ForInStep PUnit)}
    (form : ∀ k v, f (k, v) ⟨⟩ = (do let kv ← k; let vv ← holding [kv] v; holding [kv, vv] (dictSet d kv vv); pure (.yield ⟨⟩))) :
    ∀ {ks : List (Option Expr)} {vs : List Expr} {ps : List (Str × Str)}, Lits X ks vs ps → ∀ (kvs : List (Key × V)) (H : Hp) (s : Shared) (Q : PUnit → Shared → Prop), Inv X pins σ H s → H d = some (.dK kvs) → kvs.length + ps.length ≤ 1000 →
      (∀ s', Inv X pins σ (upd H d (.dK (mergeK kvs (ps.map kvT)))) s' → Q ⟨⟩ s') → wpAny (model X.prog X.w) X.A (forIn (pairTrees ks vs X.env pos) (⟨⟩ : PUnit) f) Q X.xe s := by
  intro ks vs ps lits
  induction lits with
  | nil =>
    intro kvs H s Q inv here _ hand
    apply wpAny_pure
    apply hand
    have e : upd H d (.dK (mergeK kvs (([] : List (Str × Str)).map kvT))) = H := by
      funext b
      by_cases z : b = d
      · subst z; rw [upd_same, here]; rfl
      · rw [upd_ne z]
    rw [e]
    exact inv
  | @cons k v ks vs ps a b hk hv rest ih =>
    intro kvs H s Q inv here few hand
    show wpAny _ _ (forIn ((eval k X.env, (do let x ← eval v X.env; standAt pos; pure x)) :: pairTrees ks vs X.env pos) _ f) _ _ _
    rw [List.forIn_cons, form]
    apply wpAny_bind
    apply wpAny_bind
    apply wpAny_mono (hk.run pins s σ H (fun x H' => x = .str a ∧ H' = H) inv ⟨rfl, rfl⟩) _ (fun _ _ raised => raised)
    rintro kv s1 ⟨x, H1, inv1, rel, rfl, rfl⟩
    rcases rel with ⟨t1, rfl⟩
    apply wpAny_bind
    apply wpAny_holding
    apply wpAny_bind
    apply wpAny_mono (hv.run pins s1 σ H1 (fun x H' => x = .str b ∧ H' = H1) inv1 ⟨rfl, rfl⟩) _ (fun _ _ raised => raised)
    rintro vv s2 ⟨x, H2, inv2, rel, rfl, rfl⟩
    apply wpAny_bind
    apply wpAny_standAt
    apply wpAny_pure
    apply wpAny_bind
    apply wpAny_holding
    obtain ⟨size, low, ws, pairs, dict⟩ := dk_of inv2.hok here
    rw [List.length_cons] at few
    apply wpAny_dictSet_pairs (knd := mixKind X.prog X.w) (k := Sum.inr a) (kV_is (k := Sum.inr a) ⟨t1, rfl⟩) dict _ (by rw [← pairs.length]; exact Nat.le_of_lt (small1000 (by omega)))
    intro h' dict' same
    apply wpAny_pure
    have len := length_putK kvs (Sum.inr a) (.str b)
    have inv3 : Inv X pins σ (upd H2 d (.dK (putK kvs (Sum.inr a) (.str b)))) { s2 with heap := h', toks := s2.toks + 1 } :=
      d_write inv2 (by rw [here]; trivial) same (by obtain ⟨o, _, _, there, _⟩ := dict'; exact ⟨o, there⟩) (dk_new (Nat.le_of_lt (small1000 (by omega))) low (pairs.put (Sum.inr a) rel) dict')
    apply ih _ _ _ _ inv3 upd_same (by omega)
    intro s' inv'
    apply hand
    have e : upd (upd H2 d (.dK (putK kvs (Sum.inr a) (.str b)))) d (.dK (mergeK (putK kvs (Sum.inr a) (.str b)) (ps.map kvT))) = upd H2 d (.dK (mergeK kvs (((a, b) :: ps).map kvT))) := by
      funext c
      by_cases z : c = d
      · subst z; rw [upd_same, upd_same]; rfl
      · rw [upd_ne z, upd_ne z, upd_ne z]
    rw [← e]
    exact inv'
theorem pe_disp16 {X : Cx} {pos : Pos} {ks : List (Option Expr)} {vs : List Expr} {ps : List (Str × Str)} (lits : Lits X ks vs ps) (len : ps.length = 16) :
    PE X (.Dict ks vs pos) (fun _ H Q => ∀ p, H p = none → Q (.ref p) (upd H p (.dK (mergeK [] (ps.map kvT))))) where
  run pins s σ H Q inv ask := by
    obtain ⟨some_, same, long⟩ := lits.all
    have n16 : (pairTrees ks vs X.env pos).length = 16 := by rw [pairTrees_length ks vs X.env pos some_ same, long, len]
    rw [arm_eval_Dict, zip_pairTrees ks vs X.env pos some_ same, dictDisplay_pairs _ (fun e => by rw [e] at n16; cases n16) (by omega)]
    apply wpAny_bind
    apply wpAny_standAt
    apply wpAny_bind
    unfold subDict
    apply wpAny_bind
    apply wpAny_alloc
    apply wpAny_bind
    apply wpAny_holding
    rw [if_neg (by omega)]
    apply wpAny_bind
    apply wpAny_rule
    have new := inv.hok.fresh (Nat.le_refl s.heap.objs.size)
    have inv1 := inv.laid (a := s.heap.objs.size) (o := .dK []) (h' := s.heap.push { cls := .type "dict", data := .dict #[] }) (t' := s.toks) (fun _ _ q => Heap.get?_push_of_some _ q) (Nat.le_refl _) (dk_empty s.heap inv.big)
    apply wpAny_bind
    apply fill_lits (fun _ _ => rfl) lits [] _ _ _ inv1 upd_same (by rw [len]; decide)
    intro s' inv'
    apply wpAny_pure
    apply wpAny_pure
    apply wpAny_pure
    have e : upd (upd H s.heap.objs.size (.dK [])) s.heap.objs.size (.dK (mergeK [] (ps.map kvT))) = upd H s.heap.objs.size (.dK (mergeK [] (ps.map kvT))) := by
      funext c
      by_cases z : c = s.heap.objs.size
      · subst z; rw [upd_same, upd_same]
      · rw [upd_ne z, upd_ne z, upd_ne z]
    rw [e] at inv'
    exact ⟨.ref _, _, inv', rfl, ask _ new⟩
end Tm

/-! the law's own table of products -/
namespace Tm
open PySem PySem.Spec PyProof.Rows L2
def ptabS : List (Str × Str) := ptab.map fun p => (Str.ofString p.1, Str.ofString p.2)
def tabKV : List (Key × V) := [49, 88, 90, 87].flatMap fun a => [49, 88, 90, 87].map fun b => (Sum.inr (txt [a, b]), tv (pP a b))
theorem tab_is : mergeK [] (ptabS.map kvT) = tabKV := by decide +kernel
theorem tab_at : ∀ a ∈ Al, ∀ b ∈ Al, valV tabKV (Sum.inr (txt [a, b])) = some (tv (pP a b)) := by decide +kernel
theorem p_last : ∀ a ∈ Al, ∀ b ∈ Al, atI (pP a b) (-1) = some (pL a b) := by decide +kernel
theorem p_pair : ∀ a ∈ Al, ∀ b ∈ Al, two [a] [b] = pP a b := by decide +kernel
theorem p_first : ∀ a ∈ Al, pL 49 a = a ∧ pS 49 a = 0 := by decide +kernel
theorem z_first : ∀ (as : List Nat), Al4 as → zL (List.replicate as.length 49) as = as ∧ zS (List.replicate as.length 49) as = 0
  | [], _ => ⟨rfl, rfl⟩
  | a :: as, ha => by
    have i := z_first as ha.tail
    have p := p_first a ha.head
    rw [List.length_cons, List.replicate_succ, zL_cons, zS_cons, i.1, i.2, p.1, p.2]
    exact ⟨rfl, rfl⟩
theorem one_two {n : Nat} {x : List Nat} (hx : Sn n x) : two (List.replicate n 49) x = x := by
  obtain ⟨s, as, rfl, la, ha⟩ := hx
  have e : List.replicate n 49 = wd false (List.replicate as.length 49) := by rw [la]; rfl
  rw [e, two_wd (al_ones _) ha, (z_first as ha).1, (z_first as ha).2]
  congr 1
  have e2 := od_bit s
  rw [← e2]
  apply od_eq
  cases s <;> rfl
theorem all_mult {n : Nat} {x : List Nat} (r : List (List Nat)) (hx : Sn n x) : (x :: r).foldl two (List.replicate n 49) = multL (x :: r) := by
  show r.foldl two (two (List.replicate n 49) x) = r.foldl two x
  rw [one_two hx]
def spTab : Sp := fun vs H Q _ => vs = [] ∧ ∀ H' p, Same H H' → H p = none → H' p = some (.dK tabKV) → Q (.ref p) H'
def spTAll (K : PySem.W.Frag) : Sp := fun vs H Q _ => ∃ (n : Nat) (a : Addr) (xss : List (List Nat)), vs = [.ref a, .int ((n : Nat) : Int)] ∧ SqL K H a (xss.map tv) ∧ n ≤ 900 ∧ xss.length ≤ 20 ∧ (∀ x ∈ xss, Sn n x) ∧ ∀ H', Same H H' → Q (tv (xss.foldl two (List.replicate n 49))) H'
theorem zL_take (as bs : List Nat) {i a b : Nat} (ha : as[i]? = some a) (hb : bs[i]? = some b) : (zL as bs).take (i + 1) = (zL as bs).take i ++ [pL a b] := by
  have e : (zL as bs)[i]? = some (pL a b) := by unfold zL; rw [List.getElem?_zipWith, ha, hb]
  rw [List.take_succ, e]; rfl
theorem zS_take (as bs : List Nat) {i a b : Nat} (ha : as[i]? = some a) (hb : bs[i]? = some b) : ((List.zipWith pS as bs).take (i + 1)).sum = ((List.zipWith pS as bs).take i).sum + pS a b := by
  have e : (List.zipWith pS as bs)[i]? = some (pS a b) := by rw [List.getElem?_zipWith, ha, hb]
  rw [List.take_succ, e, List.sum_append]; simp
/-! ### all pairs of letters -/
def prs (as : List Nat) : List (Nat × Nat) := as.flatMap fun a => Al.map fun b => (a, b)
theorem prs_snoc (as : List Nat) (a : Nat) : prs (as ++ [a]) = prs as ++ Al.map fun b => (a, b) := by
  unfold prs
  rw [List.flatMap_append]
  simp
theorem prs_mem {p : Nat × Nat} (h : p ∈ prs Al) : p.1 ∈ Al ∧ p.2 ∈ Al := (show ∀ p ∈ prs Al, p.1 ∈ Al ∧ p.2 ∈ Al by decide) p h
theorem prs_few : ∀ i, i ≤ 4 → (prs (Al.take i)).length = 4 * i := by decide
theorem dp_strs {K : PySem.W.Frag} {H : Hp} : ∀ zs : List Str, DpAll K H (zs.map V.str) (zs.map PyData.str)
  | [] => .nil
  | z :: r => .cons (.str z) (dp_strs r)
theorem cm_dec (x y : List Nat) : cmB x y = decide (tv (two x y) = tv (two y x)) := by
  unfold cmB
  apply decide_eq_decide.mpr
  exact ⟨fun e => congrArg tv e, fun e => txt_inj (V.str.inj e)⟩
theorem cm_swap (x y : List Nat) : cmB y x = decide (tv (two x y) = tv (two y x)) := by
  unfold cmB
  apply decide_eq_decide.mpr
  exact ⟨fun e => congrArg tv e.symm, fun e => (txt_inj (V.str.inj e)).symm⟩
theorem cm_self (x : List Nat) : cmB x x = true := decide_eq_true rfl
end Tm

namespace T21
open PySem PySem.Spec PyProof.Rows L2 Tm
def topS (i : Nat) : Stmt := PySem.Challenge.pw_threadmark_k21_products_of_strings.main.body.getD i (.Pass ⟨0, 0, 0, 0⟩)
abbrev sBag : Stmt := topS 18
abbrev sPull : Stmt := topS 19
abbrev sOf : Stmt := topS 20
theorem scBag : FnScope ["_law_script", "_law_salt", "_law_cell"] ["_law_script"] (defScope sBag) := ⟨rfl, rfl, rfl, by decide +kernel, rfl, by decide +kernel, by decide +kernel⟩
theorem scPull : FnScope ["_law_bag_here", "_law_many", "_law_cell", "_law_digit", "_law_square"] ["_law_bag_here", "_law_many"] (defScope sPull) := ⟨rfl, rfl, rfl, by decide +kernel, rfl, by decide +kernel, by decide +kernel⟩
theorem scOf : FnScope ["_law_bag_here", "_law_things"] ["_law_bag_here", "_law_things"] (defScope sOf) := ⟨rfl, rfl, rfl, by decide +kernel, rfl, by decide +kernel, by decide +kernel⟩
section
variable {P : Program} {w : World} {K : PySem.W.Frag} {mg : Str → Option Value} {base : Heap}
theorem ok_bag {f : Addr} {fd : FuncData} (F : Fun K "_law_bag" "_law_bag" sBag f fd) (ml : mg "list" = none) : FnOk P w K mg base CX0 1 f fd ["_law_script"] (spBag K) := by
  refine F.ok scBag (fun vs H Q E h => ?_) (fun cdv A outer s H vs Q E hr h => ?_)
  · obtain ⟨a, ns, rfl, _⟩ := h
    rfl
  · obtain ⟨a, ns, rfl, hS, q⟩ := h
    refine ⟨_, pss_cons (ps_set (i := 1) scBag.nd rfl (.inl rfl) pe_int)
      (pss_cons (ps_for PassesOwn.never rfl (pi_list (pe_slice sl_list (pv 0) po_none (po_some pe_int))) (pg_name (i := 2) scBag.nd rfl (.inl rfl))
        (pss_one (ps_set (i := 1) scBag.nd rfl (.inl rfl) (pe_op op_mod (pe_op op_add (pe_op op_add (pe_op op_mul (pv 1) pe_int) (pe_op op_mod (pv 2) pe_int)) pe_int) pe_int))))
      (pss_one (ps_ret (pe_lst (pa_cons (pe_callTy call_list_of (by rfl) ml boot_list (pa_cons (pe_slice sl_list (pv 0) po_none (po_some pe_int)) pa_nil)) (pa_cons pe_int (pa_cons pe_int (pa_cons (pv 1) pa_nil)))))))), ?_⟩
    refine ⟨.ref a, rfl, 63, rfl, a, ns.map V.int, rfl, hS, fun p np => ?_⟩
    have s1 : Same H (upd H p (.lst (cutV (ns.map V.int) none (some 63)))) := same_upd np
    refine ⟨p, rfl, ⟨_, .inl (.inl upd_same)⟩, for_list (K := K) (a := p) (xs := cutV (ns.map V.int) none (some 63))
      (fun i σ H' => ∃ (z : Int) (y : Option V), σ = [some (.ref a), some (.int z), y] ∧ 0 ≤ z ∧ z < 2147483549 ∧ H' = upd H p (.lst (cutV (ns.map V.int) none (some 63)))) ⟨3808, none, rfl, by decide, by decide, rfl⟩
      (fun i σ H' _ ⟨_, _, _, _, _, e⟩ => by rw [e]; exact .inl (.inl upd_same)) ?_ ?_⟩
    · rintro i y σ H' hi ⟨z, y0, rfl, h0, h1, rfl⟩
      obtain ⟨u, rfl⟩ := cut_int hi
      refine ⟨_, rfl, _, _, rfl, rfl, .inl ⟨by omega, by omega⟩, _, rfl, _, _, rfl, rfl, (by dsimp only; decide), _, _, rfl, rfl, _, _, rfl, rfl, _, _, rfl, rfl, (by dsimp only; decide), ?_⟩
      refine ⟨_, _, rfl, Int.emod_nonneg _ (by decide), Int.emod_lt_of_pos _ (by decide), rfl⟩
    · rintro σ H' ⟨z, y0, rfl, h0, h1, rfl⟩
      refine ⟨.ref a, rfl, 63, rfl, a, ns.map V.int, rfl, s1.seq hS, fun p2 np2 => ?_⟩
      refine ⟨p2, _, rfl, .inl (.inl (.inl upd_same)), fun l nl => ?_⟩
      refine ⟨.int z, rfl, (by show 4 ≤ sizeLine; decide), fun b nb => ?_⟩
      have e2 := (same_upd (o := .lst (cutV (ns.map V.int) none (some 63))) np2)
      have e3 := (same_upd (o := .lst (cutV (ns.map V.int) none (some 63))) nl)
      have e4 := (same_upd (o := .lst [.ref l, .int 0, .int 0, .int z]) nb)
      have f4 := ((s1.trans e2).trans e3).free nb
      have f3 := (s1.trans e2).free nl
      obtain ⟨ms, em⟩ := cut_ints ns none (some 63)
      refine q _ b l (((s1.trans e2).trans e3).trans e4) f4 f3 ⟨ms, 0, 0, z, upd_same, ?_, by decide, by decide, h0, h1⟩
      rw [← em]
      exact e4 _ _ upd_same

theorem ok_pull {f : Addr} {fd : FuncData} (F : Fun K "_law_pull" "_law_pull" sPull f fd) (ml : mg "len" = none) : FnOk P w K mg base CX0 1 f fd ["_law_bag_here", "_law_many"] spPull := by
  refine F.ok scPull (fun vs H Q E h => ?_) (fun cdv A outer s H vs Q E hr h => ?_)
  · obtain ⟨b, l, m, rfl, _⟩ := h
    rfl
  · obtain ⟨b, l, m, rfl, B, hm0, hm1, q⟩ := h
    refine ⟨_, pss_cons (ps_if (PW.pt (pw_and (pt_cmpR op_lt (pe_ix ix_list (pv 0) pe_int (fun _ _ => rfl)) (pv 1) (nomark _)) (pw_and1 (pt_cmpR op_lt (pe_ix ix_list (pv 0) pe_int (fun _ _ => rfl)) (pe_callB call_len_seq (by rfl) ml PySem.boot_len (pa_cons (pe_ix ix_list (pv 0) pe_int (fun _ _ => rfl)) pa_nil)) (nomark _)))))
        (pss_cons (ps_set (i := 2) scPull.nd rfl (.inl rfl) (pe_ix ix_list (pe_ix ix_list (pv 0) pe_int (fun _ _ => rfl)) (pe_ix ix_list (pv 0) pe_int (fun _ _ => rfl)) (fun _ _ => rfl)))
        (pss_cons (ps_asg (pe_op op_add (pe_ix ix_list (pv 0) pe_int (fun _ _ => rfl)) pe_int) (pg_sub (pv 0) pe_int set_list))
        (pss_cons (ps_asg pe_int (pg_sub (pv 0) pe_int set_list))
        (pss_one (ps_if (pt_cmpR op_ge (pv 2) (pe_op op_pow pe_int pe_int) (nomark _)) (pss_one (ps_asg (pv 2) (pg_sub (pv 0) pe_int set_list)))
          (pss_one (ps_asg (pe_op op_mod (pe_op op_add (pe_op op_add (pe_op op_mul (pe_ix ix_list (pv 0) pe_int (fun _ _ => rfl)) pe_int) (pe_op op_mul (pe_op op_mod (pv 2) pe_int) pe_int)) pe_int) pe_int) (pg_sub (pv 0) pe_int set_list))))))))
        pss_nil)
      (pss_cons (ps_if (pt_cmpR op_ge (pe_ix ix_list (pv 0) pe_int (fun _ _ => rfl)) (pv 1) (nomark _))
        (pss_cons (ps_set (i := 3) scPull.nd rfl (.inl rfl) (pe_op op_mod (pe_ix ix_list (pv 0) pe_int (fun _ _ => rfl)) (pv 1)))
        (pss_cons (ps_asg (pe_op op_fdiv (pe_ix ix_list (pv 0) pe_int (fun _ _ => rfl)) (pv 1)) (pg_sub (pv 0) pe_int set_list))
        (pss_one (ps_ret (pv 3))))) pss_nil)
      (pss_cons (ps_set (i := 4) scPull.nd rfl (.inl rfl) (pe_op op_mod (pe_op op_mul (pe_ix ix_list (pv 0) pe_int (fun _ _ => rfl)) (pe_ix ix_list (pv 0) pe_int (fun _ _ => rfl))) pe_int))
      (pss_cons (ps_asg (pe_op op_mod (pe_op op_add (pe_op op_add (pe_op op_mul (pv 4) pe_int) (pe_op op_mul (pe_ix ix_list (pv 0) pe_int (fun _ _ => rfl)) pe_int)) pe_int) pe_int) (pg_sub (pv 0) pe_int set_list))
      (pss_one (ps_ret (pe_op op_mod (pe_op op_add (pe_op op_fdiv (pe_ix ix_list (pv 0) pe_int (fun _ _ => rfl)) pe_int) (pe_op op_mul (pe_op op_mod (pe_ix ix_list (pv 0) pe_int (fun _ _ => rfl)) pe_int) pe_int)) (pv 1))))))), ?_⟩
    refine cut (fun σ' H' => ∃ y, σ' = [some (.ref b), some (.int m), y, none, none] ∧ Bag H' b l ∧ Kp b H H') (fun σ1 H1 hp => ?tail) (fun N hN => ?head)
    case head =>
      obtain ⟨xs, i, n, z, hb, hl, i0, n0, z0, z1⟩ := id B
      have nlb := bag_ne hb hl
      refine ⟨_, rfl, b, _, 2, .int n, rfl, rfl, SqL.of hb, rfl, _, rfl, _, _, rfl, rfl, _, rfl, ite2 (fun hlt => ?_) (fun _ => ?_)⟩
      · refine ⟨_, rfl, b, _, 1, .int i, rfl, rfl, SqL.of hb, rfl, _, rfl, b, _, 0, .ref l, rfl, rfl, SqL.of hb, rfl, l, _, rfl, .inl (SqL.of hl), _, _, rfl, rfl, _, rfl, ite2 (fun hlt2 => ?_) (fun _ => ?_)⟩
        · have hi : i < ((xs.map V.int).length : Int) := of_decide_eq_true hlt2
          rw [List.length_map] at hi
          obtain ⟨j, rfl⟩ : ∃ j : Nat, i = j := ⟨i.toNat, by omega⟩
          have hj : j < xs.length := by omega
          have gj : (xs.map V.int)[j]? = some (.int xs[j]) := by
            rw [List.getElem?_map, List.getElem?_eq_getElem hj]; rfl
          generalize xs[j] = c at gj
          refine ⟨_, rfl, b, _, 0, .ref l, rfl, rfl, SqL.of hb, rfl, _, rfl, b, _, 1, .int j, rfl, rfl, SqL.of hb, rfl, l, _, j, .int c, rfl, rfl, SqL.of hl, atI_nat gj, ?_⟩
          refine ⟨_, rfl, b, _, 1, .int j, rfl, rfl, SqL.of hb, rfl, _, _, rfl, rfl, _, rfl, b, _, 1, 1, rfl, rfl, hb, rfl, ?_⟩
          refine ⟨_, rfl, b, _, 2, 2, rfl, rfl, upd_same, rfl, ?_⟩
          rw [upd_upd]
          refine ⟨_, rfl, _, _, rfl, rfl, ⟨by decide, by decide, by decide⟩, _, _, rfl, rfl, _, rfl, ite2 (fun hge => ?_) (fun _ => ?_)⟩
          · refine ⟨_, rfl, _, rfl, b, _, 2, 2, rfl, rfl, upd_same, rfl, ?_⟩
            rw [upd_upd]
            refine hN _ _ ⟨_, rfl, ⟨xs, _, _, _, upd_same, by rw [upd_ne nlb]; exact hl, by omega, ?_, z0, z1⟩, Kp.set⟩
            have e := of_decide_eq_true hge
            have e2 : (0 : Int) ≤ 10 ^ (18 : Int).toNat := by decide
            omega
          · refine ⟨_, rfl, b, _, 3, .int z, rfl, rfl, SqL.of upd_same, rfl, _, _, rfl, rfl, .inl ⟨by omega, by omega⟩, _, rfl, _, _, rfl, rfl, (by dsimp only; decide), _, _, rfl, rfl, .inr ⟨by decide, by decide⟩, _, _, rfl, rfl, _, _, rfl, rfl, _, _, rfl, rfl, (by dsimp only; decide), _, rfl, b, _, 3, 3, rfl, rfl, upd_same, rfl, ?_⟩
            rw [upd_upd]
            exact hN _ _ ⟨_, rfl, ⟨xs, _, _, _, upd_same, by rw [upd_ne nlb]; exact hl, by omega, by decide, Int.emod_nonneg _ (by decide), Int.emod_lt_of_pos _ (by decide)⟩, Kp.set⟩
        · exact hN _ _ ⟨_, rfl, B, Kp.refl _ _⟩
      · exact hN _ _ ⟨_, rfl, B, Kp.refl _ _⟩
    case tail =>
      obtain ⟨y, rfl, ⟨xs, i, n, z, hb, hl, i0, n0, z0, z1⟩, kp⟩ := hp
      have nlb := bag_ne hb hl
      refine ⟨_, rfl, b, _, 2, .int n, rfl, rfl, SqL.of hb, rfl, _, rfl, _, _, rfl, rfl, _, rfl, ite2 (fun hge => ?_) (fun _ => ?_)⟩
      · refine ⟨_, rfl, b, _, 2, .int n, rfl, rfl, SqL.of hb, rfl, _, rfl, _, _, rfl, rfl, hm0, ?_⟩
        refine ⟨_, rfl, b, _, 2, .int n, rfl, rfl, SqL.of hb, rfl, _, rfl, _, _, rfl, rfl, ⟨hm0, hm1⟩, _, rfl, b, _, 2, 2, rfl, rfl, hb, rfl, ?_⟩
        refine ⟨_, rfl, ?_⟩
        exact q _ _ (kp.trans Kp.set) ⟨xs, _, _, _, upd_same, by rw [upd_ne nlb]; exact hl, i0, Int.ediv_nonneg n0 (by omega), z0, z1⟩ (Int.emod_nonneg _ (by omega)) (Int.emod_lt_of_pos _ hm0)
      · refine ⟨_, rfl, b, _, 3, .int z, rfl, rfl, SqL.of hb, rfl, _, rfl, b, _, 3, .int z, rfl, rfl, SqL.of hb, rfl, _, _, rfl, rfl, .inl ⟨by omega, by omega⟩, _, _, rfl, rfl, (by dsimp only; decide), ?_⟩
        have w0 : 0 ≤ z * z % 2147483549 := Int.emod_nonneg _ (by decide)
        have w1 : z * z % 2147483549 < 2147483549 := Int.emod_lt_of_pos _ (by decide)
        refine ⟨_, rfl, _, _, rfl, rfl, .inl ⟨by omega, by omega⟩, _, rfl, b, _, 3, .int z, rfl, rfl, SqL.of hb, rfl, _, _, rfl, rfl, .inl ⟨by omega, by omega⟩, _, _, rfl, rfl, _, _, rfl, rfl, _, _, rfl, rfl, (by dsimp only; decide), _, rfl, b, _, 3, 3, rfl, rfl, hb, rfl, ?_⟩
        refine ⟨_, rfl, b, _, 3, _, rfl, rfl, SqL.of upd_same, rfl, _, _, rfl, rfl, ⟨by decide, by decide⟩, _, rfl, b, _, 3, _, rfl, rfl, SqL.of upd_same, rfl, _, _, rfl, rfl, (by dsimp only; decide), _, _, rfl, rfl, .inr ⟨by decide, by decide⟩, _, _, rfl, rfl, _, rfl, _, _, rfl, rfl, hm0, ?_⟩
        exact q _ _ (kp.trans Kp.set) ⟨xs, _, _, _, upd_same, by rw [upd_ne nlb]; exact hl, i0, n0, Int.emod_nonneg _ (by decide), Int.emod_lt_of_pos _ (by decide)⟩ (Int.emod_nonneg _ (by omega)) (Int.emod_lt_of_pos _ hm0)
end

section
variable {P : Program} {w : World} {K : PySem.W.Frag} {mg : Str → Option Value} {base : Heap}
theorem ok_of {f fP : Addr} {fd fdP : FuncData} (F : Fun K "_law_of" "_law_of" sOf f fd) (FP : Fun K "_law_pull" "_law_pull" sPull fP fdP) (bP : Binds K fdP ["_law_bag_here", "_law_many"] []) (gP : mg "_law_pull" = some (.ref fP)) (ml : mg "len" = none) : FnOk P w K mg base CX0 2 f fd ["_law_bag_here", "_law_things"] (spOf K) := by
  have GP : FnOk P w K mg base CX0 1 fP fdP ["_law_bag_here", "_law_many"] spPull := ok_pull FP ml
  refine F.ok scOf (fun vs H Q E h => ?_) (fun cdv A outer s H vs Q E hr h => ?_)
  · obtain ⟨b, l, t, xs, rfl, _⟩ := h
    rfl
  · obtain ⟨b, l, t, xs, rfl, B, hT, h0, h1, q⟩ := h
    refine ⟨_, pss_one (ps_ret (pe_ix ix_seq (pv 1) (pe_call GP hr (by rfl) gP FP.kp bP .nil pass0 (pa_cons (pv 0) (pa_cons (pe_callB call_len (by rfl) ml PySem.boot_len (pa_cons (pv 1) pa_nil)) pa_nil))) (fun _ _ => rfl))), ?_⟩
    rcases hT with ⟨a, rfl, nab, hS⟩ | ⟨z, rfl, hz, rfl⟩
    · refine ⟨_, rfl, _, rfl, _, rfl, _, _, rfl, .inl ⟨_, hS, rfl⟩, b, l, _, rfl, B, by omega, by omega, fun H' d kp B' d0 d1 => ?_⟩
      obtain ⟨j, rfl⟩ : ∃ j : Nat, d = j := ⟨d.toNat, by omega⟩
      have hj : j < xs.length := by omega
      exact .inl ⟨a, xs, _, xs[j], rfl, rfl, kp.seq nab hS, atI_nat (List.getElem?_eq_getElem hj), q _ _ kp B' (List.getElem_mem hj)⟩
    · rw [List.length_map, Array.length_toList] at h0 h1
      refine ⟨_, rfl, _, rfl, _, rfl, _, _, rfl, ⟨hz, rfl⟩, b, l, _, rfl, B, ?_, ?_, fun H' d kp B' d0 d1 => ?_⟩
      · show (0 : Int) < ((z.cps.size : Nat) : Int)
        omega
      · show ((z.cps.size : Nat) : Int) < 1073741824
        omega
      · have d2 : d < ((z.cps.size : Nat) : Int) := d1
        obtain ⟨j, rfl⟩ : ∃ j : Nat, d = j := ⟨d.toNat, by omega⟩
        have hj : j < z.cps.toList.length := by rw [Array.length_toList]; omega
        refine .inr (.inr ⟨z, _, z.cps.toList[j], rfl, rfl, hz, atI_nat (List.getElem?_eq_getElem hj), q _ _ kp B' ?_⟩)
        exact List.mem_map.mpr ⟨_, List.getElem_mem hj, rfl⟩
end

abbrev sSame : Stmt := topS 21
theorem scSame : FnScope ["_law_found", "_law_due", "_law_one", "_law_other"] ["_law_found", "_law_due"] (defScope sSame) := ⟨rfl, rfl, rfl, by decide +kernel, rfl, by decide +kernel, by decide +kernel⟩
structure SameT (mg : Str → Option Value) : Prop where
  isi : mg "isinstance" = none
  dict : mg "dict" = none
  list : mg "list" = none
  tuple : mg "tuple" = none
  bool : mg "bool" = none
  int : mg "int" = none
  str : mg "str" = none
  len : mg "len" = none
  all : mg "all" = none
  zip : mg "zip" = none
section
variable {P : Program} {w : World} {K : PySem.W.Frag} {mg : Str → Option Value} {base : Heap}
theorem ok_same0 {f : Addr} {fd : FuncData} (F : Fun K "_law_same" "_law_same" sSame f fd) (T : SameT mg) : FnOk P w K mg base CX0 (0 + 1) f fd ["_law_found", "_law_due"] (spSame (0)) := by
  refine F.ok scSame (fun vs H Q E h => ?_) (fun cdv A outer s H vs Q E hr h => ?_)
  · obtain ⟨x, y, rfl, _⟩ := h
    rfl
  · obtain ⟨x, y, rfl, he, q⟩ := h
    refine ⟨_, pss_cons (ps_if (PW.pt (pw_or (pt_cmpR op_isN (pv 1) pe_non (nomark _)) (pw_or1 (pt_cmpR op_isN (pv 0) pe_non (nomark _))))) (pss_one (ps_ret (pe_and (pe_cmpR op_isN (pv 0) pe_non (nomark _)) (pe_one (pe_cmpR op_isN (pv 1) pe_non (nomark _)))))) pss_nil)
      (pss_cons (ps_if (pt_val (pe_callB call_isi (by rfl) T.isi boot_isinstance (pa_cons (pv 1) (pa_cons (pe_bltn (v := .ty "dict") (by rfl) T.dict (by decide +kernel) rfl) pa_nil)))) pss_never pss_nil)
      (pss_cons (ps_if (pt_val (pe_callB call_isiT (by rfl) T.isi boot_isinstance (pa_cons (pv 1) (pa_cons (pe_tup (pa_cons (pe_bltn (v := .ty "list") (by rfl) T.list (by decide +kernel) rfl) (pa_cons (pe_bltn (v := .ty "tuple") (by rfl) T.tuple (by decide +kernel) rfl) pa_nil))) pa_nil)))) pss_never pss_nil)
      (pss_cons (ps_if (PW.pt (pw_or (pt_cmpR op_ne (pe_callB call_isi (by rfl) T.isi boot_isinstance (pa_cons (pv 0) (pa_cons (pe_bltn (v := .ty "bool") (by rfl) T.bool (by decide +kernel) rfl) pa_nil))) (pe_callB call_isi (by rfl) T.isi boot_isinstance (pa_cons (pv 1) (pa_cons (pe_bltn (v := .ty "bool") (by rfl) T.bool (by decide +kernel) rfl) pa_nil))) (nomark _))
          (pw_or1 (pt_cmpR op_ne (pe_callB call_isi (by rfl) T.isi boot_isinstance (pa_cons (pv 0) (pa_cons (pe_bltn (v := .ty "int") (by rfl) T.int (by decide +kernel) rfl) pa_nil))) (pe_callB call_isi (by rfl) T.isi boot_isinstance (pa_cons (pv 1) (pa_cons (pe_bltn (v := .ty "int") (by rfl) T.int (by decide +kernel) rfl) pa_nil))) (nomark _))))) pss_never pss_nil)
      (pss_one (ps_ret (pe_and (pe_cmpR op_eq (pe_callB call_isi (by rfl) T.isi boot_isinstance (pa_cons (pv 0) (pa_cons (pe_bltn (v := .ty "str") (by rfl) T.str (by decide +kernel) rfl) pa_nil))) (pe_callB call_isi (by rfl) T.isi boot_isinstance (pa_cons (pv 1) (pa_cons (pe_bltn (v := .ty "str") (by rfl) T.str (by decide +kernel) rfl) pa_nil))) (nomark _)) (pe_one (pe_cmpR op_eq (pv 0) (pv 1) (nomark _))))))))), ?_⟩
    rcases he with _ | ⟨_, bb⟩ | ⟨_, i⟩ | ⟨_, z⟩
    · refine ⟨_, rfl, rfl, _, rfl, iteT ⟨_, rfl, rfl, _, rfl, ifT rfl ⟨_, rfl, rfl, ?_⟩⟩⟩
      exact q _ (Same.refl _)
    · refine ⟨_, rfl, rfl, _, rfl, ifF (decide_eq_false (by intro e; cases e)) ⟨_, rfl, rfl, _, rfl, ifF (decide_eq_false (by intro e; cases e)) ?_⟩⟩
      refine ⟨_, rfl, _, _, _, _, false, rfl, .ty "dict", .base (.bl bb), kit_ty (by decide +kernel), _, rfl, iteF ?_⟩
      refine ⟨_, rfl, (by show 2 ≤ sizeLine; decide), fun t ht => ⟨_, t, _, _, [.type "list", .type "tuple"], false, rfl, upd_same, .cons (.ty _) (.cons (.ty _) .nil), .base (.bl bb), kit_list (by decide +kernel) (fun _ => by decide +kernel), _, rfl, iteF ?_⟩⟩
      refine ⟨_, rfl, _, _, _, _, true, rfl, .ty "bool", .base (.bl bb), kit_ty (by decide +kernel), _, rfl, _, _, _, _, true, rfl, .ty "bool", .base (.bl bb), kit_ty (by decide +kernel), rfl, _, rfl, ifF (by decide) ⟨_, rfl, _, _, _, _, true, rfl, .ty "int", .base (.bl bb), kit_ty (by decide +kernel), _, rfl, _, _, _, _, true, rfl, .ty "int", .base (.bl bb), kit_ty (by decide +kernel), rfl, _, rfl, ifF (by decide) ?_⟩⟩
      refine ⟨_, rfl, _, _, _, _, false, rfl, .ty "str", .base (.bl bb), kit_ty (by decide +kernel), _, rfl, _, _, _, _, false, rfl, .ty "str", .base (.bl bb), kit_ty (by decide +kernel), rfl, _, rfl, ifT (by decide) ⟨_, rfl, _, rfl, rfl, ?_⟩⟩
      rw [decide_eq_true rfl]
      exact q _ (same_upd ht)
    · refine ⟨_, rfl, rfl, _, rfl, ifF (decide_eq_false (by intro e; cases e)) ⟨_, rfl, rfl, _, rfl, ifF (decide_eq_false (by intro e; cases e)) ?_⟩⟩
      refine ⟨_, rfl, _, _, _, _, false, rfl, .ty "dict", .base (.int i), kit_ty (by decide +kernel), _, rfl, iteF ?_⟩
      refine ⟨_, rfl, (by show 2 ≤ sizeLine; decide), fun t ht => ⟨_, t, _, _, [.type "list", .type "tuple"], false, rfl, upd_same, .cons (.ty _) (.cons (.ty _) .nil), .base (.int i), kit_list (by decide +kernel) (fun _ => by decide +kernel), _, rfl, iteF ?_⟩⟩
      refine ⟨_, rfl, _, _, _, _, false, rfl, .ty "bool", .base (.int i), kit_ty (by decide +kernel), _, rfl, _, _, _, _, false, rfl, .ty "bool", .base (.int i), kit_ty (by decide +kernel), rfl, _, rfl, ifF (by decide) ⟨_, rfl, _, _, _, _, true, rfl, .ty "int", .base (.int i), kit_ty (by decide +kernel), _, rfl, _, _, _, _, true, rfl, .ty "int", .base (.int i), kit_ty (by decide +kernel), rfl, _, rfl, ifF (by decide) ?_⟩⟩
      refine ⟨_, rfl, _, _, _, _, false, rfl, .ty "str", .base (.int i), kit_ty (by decide +kernel), _, rfl, _, _, _, _, false, rfl, .ty "str", .base (.int i), kit_ty (by decide +kernel), rfl, _, rfl, ifT (by decide) ⟨_, rfl, _, rfl, rfl, ?_⟩⟩
      rw [decide_eq_true rfl]
      exact q _ (same_upd ht)
    · refine ⟨_, rfl, rfl, _, rfl, ifF (decide_eq_false (by intro e; cases e)) ⟨_, rfl, rfl, _, rfl, ifF (decide_eq_false (by intro e; cases e)) ?_⟩⟩
      refine ⟨_, rfl, _, _, _, _, false, rfl, .ty "dict", .base (.str z), kit_ty (by decide +kernel), _, rfl, iteF ?_⟩
      refine ⟨_, rfl, (by show 2 ≤ sizeLine; decide), fun t ht => ⟨_, t, _, _, [.type "list", .type "tuple"], false, rfl, upd_same, .cons (.ty _) (.cons (.ty _) .nil), .base (.str z), kit_list (by decide +kernel) (fun _ => by decide +kernel), _, rfl, iteF ?_⟩⟩
      refine ⟨_, rfl, _, _, _, _, false, rfl, .ty "bool", .base (.str z), kit_ty (by decide +kernel), _, rfl, _, _, _, _, false, rfl, .ty "bool", .base (.str z), kit_ty (by decide +kernel), rfl, _, rfl, ifF (by decide) ⟨_, rfl, _, _, _, _, false, rfl, .ty "int", .base (.str z), kit_ty (by decide +kernel), _, rfl, _, _, _, _, false, rfl, .ty "int", .base (.str z), kit_ty (by decide +kernel), rfl, _, rfl, ifF (by decide) ?_⟩⟩
      refine ⟨_, rfl, _, _, _, _, true, rfl, .ty "str", .base (.str z), kit_ty (by decide +kernel), _, rfl, _, _, _, _, true, rfl, .ty "str", .base (.str z), kit_ty (by decide +kernel), rfl, _, rfl, ifT (by decide) ⟨_, rfl, _, rfl, rfl, ?_⟩⟩
      rw [decide_eq_true rfl]
      exact q _ (same_upd ht)
theorem ok_sameS {f : Addr} {fd : FuncData} {n : Nat} (G : FnOk P w K mg base CX0 (n + 1) f fd ["_law_found", "_law_due"] (spSame n)) (gS : mg "_law_same" = some (.ref f)) (bS : Binds K fd ["_law_found", "_law_due"] []) (F : Fun K "_law_same" "_law_same" sSame f fd) (T : SameT mg) : FnOk P w K mg base CX0 (n + 1 + 1) f fd ["_law_found", "_law_due"] (spSame (n + 1)) := by
  refine F.ok scSame (fun vs H Q E h => ?_) (fun cdv A outer s H vs Q E hr h => ?_)
  · obtain ⟨x, y, rfl, _⟩ := h
    rfl
  · obtain ⟨x, y, rfl, he, q⟩ := h
    refine ⟨_, pss_cons (ps_if (PW.pt (pw_or (pt_cmpR op_isN (pv 1) pe_non (nomark _)) (pw_or1 (pt_cmpR op_isN (pv 0) pe_non (nomark _))))) (pss_one (ps_ret (pe_and (pe_cmpR op_isN (pv 0) pe_non (nomark _)) (pe_one (pe_cmpR op_isN (pv 1) pe_non (nomark _)))))) pss_nil)
      (pss_cons (ps_if (pt_val (pe_callB call_isi (by rfl) T.isi boot_isinstance (pa_cons (pv 1) (pa_cons (pe_bltn (v := .ty "dict") (by rfl) T.dict (by decide +kernel) rfl) pa_nil)))) pss_never pss_nil)
      (pss_cons (ps_if (pt_val (pe_callB call_isiT (by rfl) T.isi boot_isinstance (pa_cons (pv 1) (pa_cons (pe_tup (pa_cons (pe_bltn (v := .ty "list") (by rfl) T.list (by decide +kernel) rfl) (pa_cons (pe_bltn (v := .ty "tuple") (by rfl) T.tuple (by decide +kernel) rfl) pa_nil))) pa_nil)))) (pss_cons (ps_if (PW.pt (pw_or (pt_cmpR op_ne (pe_callB call_isi (by rfl) T.isi boot_isinstance (pa_cons (pv 0) (pa_cons (pe_bltn (v := .ty "list") (by rfl) T.list (by decide +kernel) rfl) pa_nil))) (pe_callB call_isi (by rfl) T.isi boot_isinstance (pa_cons (pv 1) (pa_cons (pe_bltn (v := .ty "list") (by rfl) T.list (by decide +kernel) rfl) pa_nil))) (nomark _)) (pw_or1 (pt_cmpR op_ne (pe_callB call_isi (by rfl) T.isi boot_isinstance (pa_cons (pv 0) (pa_cons (pe_bltn (v := .ty "tuple") (by rfl) T.tuple (by decide +kernel) rfl) pa_nil))) (pe_callB call_isi (by rfl) T.isi boot_isinstance (pa_cons (pv 1) (pa_cons (pe_bltn (v := .ty "tuple") (by rfl) T.tuple (by decide +kernel) rfl) pa_nil))) (nomark _))))) pss_never pss_nil)
        (pss_one (ps_ret (pe_and (pe_cmpR op_eq (pe_callB call_len_seq (by rfl) T.len PySem.boot_len (pa_cons (pv 0) pa_nil)) (pe_callB call_len_seq (by rfl) T.len PySem.boot_len (pa_cons (pv 1) pa_nil)) (nomark _))
          (pe_one (pe_callB (cr_all rfl) (by rfl) T.all boot_all (pa_cons (pe_lc (own := [("_law_one", 2), ("_law_other", 3)]) (g := gTup K 2 (gCons (gName 2) (gCons (gName 3) gNil))) (tt := tYes) rfl scSame.nd (RZ.pi_zipA (by rfl) T.zip (pa_cons (pv 0) (pa_cons (pv 1) pa_nil)))
            (blkOk_by (own := [("_law_one", 2), ("_law_other", 3)]) (N := ["_law_found", "_law_due", "_law_one", "_law_other"]) (sc := defScope sSame) (by decide +kernel))
            (fun _ _ _ _ _ => pg_tup rfl (pgs_cons (pg_name (i := 2) scSame.nd rfl (Or.inl rfl)) (pgs_cons (pg_name (i := 3) scSame.nd rfl (Or.inl rfl)) pgs_nil))) (fun _ _ _ _ _ => pts_nil)
            (fun _ _ _ _ _ => pe_call G hr (by rfl) gS F.kp bS .nil pass0 (pa_cons (pv 2) (pa_cons (pv 3) pa_nil)))) pa_nil))))))) pss_nil)
      (pss_cons (ps_if (PW.pt (pw_or (pt_cmpR op_ne (pe_callB call_isi (by rfl) T.isi boot_isinstance (pa_cons (pv 0) (pa_cons (pe_bltn (v := .ty "bool") (by rfl) T.bool (by decide +kernel) rfl) pa_nil))) (pe_callB call_isi (by rfl) T.isi boot_isinstance (pa_cons (pv 1) (pa_cons (pe_bltn (v := .ty "bool") (by rfl) T.bool (by decide +kernel) rfl) pa_nil))) (nomark _))
          (pw_or1 (pt_cmpR op_ne (pe_callB call_isi (by rfl) T.isi boot_isinstance (pa_cons (pv 0) (pa_cons (pe_bltn (v := .ty "int") (by rfl) T.int (by decide +kernel) rfl) pa_nil))) (pe_callB call_isi (by rfl) T.isi boot_isinstance (pa_cons (pv 1) (pa_cons (pe_bltn (v := .ty "int") (by rfl) T.int (by decide +kernel) rfl) pa_nil))) (nomark _))))) pss_never pss_nil)
      (pss_one (ps_ret (pe_and (pe_cmpR op_eq (pe_callB call_isi (by rfl) T.isi boot_isinstance (pa_cons (pv 0) (pa_cons (pe_bltn (v := .ty "str") (by rfl) T.str (by decide +kernel) rfl) pa_nil))) (pe_callB call_isi (by rfl) T.isi boot_isinstance (pa_cons (pv 1) (pa_cons (pe_bltn (v := .ty "str") (by rfl) T.str (by decide +kernel) rfl) pa_nil))) (nomark _)) (pe_one (pe_cmpR op_eq (pv 0) (pv 1) (nomark _))))))))), ?_⟩
    rcases he with _ | ⟨_, bb⟩ | ⟨_, i⟩ | ⟨_, z⟩ | ⟨hp, hq, hl, hz, hh⟩ | ⟨hp, hq, hl, hz, hh⟩
    · refine ⟨_, rfl, rfl, _, rfl, iteT ⟨_, rfl, rfl, _, rfl, ifT rfl ⟨_, rfl, rfl, ?_⟩⟩⟩
      exact q _ (Same.refl _)
    · refine ⟨_, rfl, rfl, _, rfl, ifF (decide_eq_false (by intro e; cases e)) ⟨_, rfl, rfl, _, rfl, ifF (decide_eq_false (by intro e; cases e)) ?_⟩⟩
      refine ⟨_, rfl, _, _, _, _, false, rfl, .ty "dict", .base (.bl bb), kit_ty (by decide +kernel), _, rfl, iteF ?_⟩
      refine ⟨_, rfl, (by show 2 ≤ sizeLine; decide), fun t ht => ⟨_, t, _, _, [.type "list", .type "tuple"], false, rfl, upd_same, .cons (.ty _) (.cons (.ty _) .nil), .base (.bl bb), kit_list (by decide +kernel) (fun _ => by decide +kernel), _, rfl, iteF ?_⟩⟩
      refine ⟨_, rfl, _, _, _, _, true, rfl, .ty "bool", .base (.bl bb), kit_ty (by decide +kernel), _, rfl, _, _, _, _, true, rfl, .ty "bool", .base (.bl bb), kit_ty (by decide +kernel), rfl, _, rfl, ifF (by decide) ⟨_, rfl, _, _, _, _, true, rfl, .ty "int", .base (.bl bb), kit_ty (by decide +kernel), _, rfl, _, _, _, _, true, rfl, .ty "int", .base (.bl bb), kit_ty (by decide +kernel), rfl, _, rfl, ifF (by decide) ?_⟩⟩
      refine ⟨_, rfl, _, _, _, _, false, rfl, .ty "str", .base (.bl bb), kit_ty (by decide +kernel), _, rfl, _, _, _, _, false, rfl, .ty "str", .base (.bl bb), kit_ty (by decide +kernel), rfl, _, rfl, ifT (by decide) ⟨_, rfl, _, rfl, rfl, ?_⟩⟩
      rw [decide_eq_true rfl]
      exact q _ (same_upd ht)
    · refine ⟨_, rfl, rfl, _, rfl, ifF (decide_eq_false (by intro e; cases e)) ⟨_, rfl, rfl, _, rfl, ifF (decide_eq_false (by intro e; cases e)) ?_⟩⟩
      refine ⟨_, rfl, _, _, _, _, false, rfl, .ty "dict", .base (.int i), kit_ty (by decide +kernel), _, rfl, iteF ?_⟩
      refine ⟨_, rfl, (by show 2 ≤ sizeLine; decide), fun t ht => ⟨_, t, _, _, [.type "list", .type "tuple"], false, rfl, upd_same, .cons (.ty _) (.cons (.ty _) .nil), .base (.int i), kit_list (by decide +kernel) (fun _ => by decide +kernel), _, rfl, iteF ?_⟩⟩
      refine ⟨_, rfl, _, _, _, _, false, rfl, .ty "bool", .base (.int i), kit_ty (by decide +kernel), _, rfl, _, _, _, _, false, rfl, .ty "bool", .base (.int i), kit_ty (by decide +kernel), rfl, _, rfl, ifF (by decide) ⟨_, rfl, _, _, _, _, true, rfl, .ty "int", .base (.int i), kit_ty (by decide +kernel), _, rfl, _, _, _, _, true, rfl, .ty "int", .base (.int i), kit_ty (by decide +kernel), rfl, _, rfl, ifF (by decide) ?_⟩⟩
      refine ⟨_, rfl, _, _, _, _, false, rfl, .ty "str", .base (.int i), kit_ty (by decide +kernel), _, rfl, _, _, _, _, false, rfl, .ty "str", .base (.int i), kit_ty (by decide +kernel), rfl, _, rfl, ifT (by decide) ⟨_, rfl, _, rfl, rfl, ?_⟩⟩
      rw [decide_eq_true rfl]
      exact q _ (same_upd ht)
    · refine ⟨_, rfl, rfl, _, rfl, ifF (decide_eq_false (by intro e; cases e)) ⟨_, rfl, rfl, _, rfl, ifF (decide_eq_false (by intro e; cases e)) ?_⟩⟩
      refine ⟨_, rfl, _, _, _, _, false, rfl, .ty "dict", .base (.str z), kit_ty (by decide +kernel), _, rfl, iteF ?_⟩
      refine ⟨_, rfl, (by show 2 ≤ sizeLine; decide), fun t ht => ⟨_, t, _, _, [.type "list", .type "tuple"], false, rfl, upd_same, .cons (.ty _) (.cons (.ty _) .nil), .base (.str z), kit_list (by decide +kernel) (fun _ => by decide +kernel), _, rfl, iteF ?_⟩⟩
      refine ⟨_, rfl, _, _, _, _, false, rfl, .ty "bool", .base (.str z), kit_ty (by decide +kernel), _, rfl, _, _, _, _, false, rfl, .ty "bool", .base (.str z), kit_ty (by decide +kernel), rfl, _, rfl, ifF (by decide) ⟨_, rfl, _, _, _, _, false, rfl, .ty "int", .base (.str z), kit_ty (by decide +kernel), _, rfl, _, _, _, _, false, rfl, .ty "int", .base (.str z), kit_ty (by decide +kernel), rfl, _, rfl, ifF (by decide) ?_⟩⟩
      refine ⟨_, rfl, _, _, _, _, true, rfl, .ty "str", .base (.str z), kit_ty (by decide +kernel), _, rfl, _, _, _, _, true, rfl, .ty "str", .base (.str z), kit_ty (by decide +kernel), rfl, _, rfl, ifT (by decide) ⟨_, rfl, _, rfl, rfl, ?_⟩⟩
      rw [decide_eq_true rfl]
      exact q _ (same_upd ht)
    · rename_i p' q' xs ys
      refine ⟨_, rfl, rfl, _, rfl, ifF (decide_eq_false (by intro e; cases e)) ⟨_, rfl, rfl, _, rfl, ifF (decide_eq_false (by intro e; cases e)) ?_⟩⟩
      refine ⟨_, rfl, _, _, _, _, false, rfl, .ty "dict", .base (.lst hq), kit_ty (by decide +kernel), _, rfl, iteF ?_⟩
      refine ⟨_, rfl, (by show 2 ≤ sizeLine; decide), fun t ht => ⟨_, t, _, _, [.type "list", .type "tuple"], true, rfl, upd_same, .cons (.ty _) (.cons (.ty _) .nil), .base (.lst (same_upd ht _ _ hq)), kit_list (by decide +kernel) (fun e => by cases e), _, rfl, iteT ?_⟩⟩
      have s1 : Same H (upd H t (.tup [.ty "list", .ty "tuple"])) := same_upd ht
      have hp1 := s1 _ _ hp
      have hq1 := s1 _ _ hq
      refine ⟨_, rfl, _, _, _, _, true, rfl, .ty "list", .base (.lst hp1), kit_ty (by decide +kernel), _, rfl, _, _, _, _, true, rfl, .ty "list", .base (.lst hq1), kit_ty (by decide +kernel), rfl, _, rfl, ifF (by decide) ⟨_, rfl, _, _, _, _, false, rfl, .ty "tuple", .base (.lst hp1), kit_ty (by decide +kernel), _, rfl, _, _, _, _, false, rfl, .ty "tuple", .base (.lst hq1), kit_ty (by decide +kernel), rfl, _, rfl, ifF (by decide) ?_⟩⟩
      refine ⟨_, rfl, p', xs, rfl, .inl (SqL.of hp1), _, rfl, q', ys, rfl, .inl (SqL.of hq1), rfl, _, rfl, ifT (decide_eq_true (by rw [hl])) ?_⟩
      refine ⟨_, rfl, _, rfl, p', q', xs, ys, rfl, .inl ⟨SqL.of hp1, SqL.of hq1, fun D hD => ?_⟩⟩
      have fD := s1.free hD
      refine lc_it (walk_zip (K := K) (a := p') (b := q') (xs := xs) (ys := ys) (n := xs.length) (by omega)) (fun i H' => Same H H' ∧ H' D = some (.lst ((List.replicate i true).map V.bl))) ⟨same_put s1 fD, upd_same⟩
        (fun i H' _ hv => ⟨SqL.of (hv.1 _ _ hp), SqL.of (hv.1 _ _ hq)⟩) ?_ ?_
      · rintro i v H' H2 hi ⟨sm, hDl⟩ ⟨t2, a1, a2, rfl, ht2, rfl, e1, e2⟩
        have s2 : Same H' (upd H' t2 (.tup [a1, a2])) := same_upd ht2
        refine ⟨t2, _, rfl, .inl (.inl upd_same), rfl, a1, [a2], rfl, a2, [], rfl, rfl, rfl, ?_⟩
        refine ⟨_, rfl, _, rfl, a1, a2, rfl, (hh i a1 a2 e1 e2).same (sm.trans s2), fun H3 s3 => ?_⟩
        refine ⟨_, s3 _ _ (s2 _ _ hDl), ?_, same_put (sm.trans (s2.trans s3)) fD, ?_⟩
        · rw [List.length_map, List.length_replicate]
          exact Nat.lt_of_lt_of_le hi (Nat.le_trans hz (by decide))
        · rw [upd_same, List.replicate_succ', List.map_append]
          rfl
      · rintro H' ⟨sm, hDl⟩
        refine ⟨D, List.replicate xs.length true, rfl, SqL.of hDl, ?_⟩
        have e : (List.replicate xs.length true).all id = true := by
          rw [List.all_eq_true]
          intro b hb
          exact (List.mem_replicate.mp hb).2
        rw [e]
        exact q _ sm
    · rename_i p' q' xs ys
      refine ⟨_, rfl, rfl, _, rfl, ifF (decide_eq_false (by intro e; cases e)) ⟨_, rfl, rfl, _, rfl, ifF (decide_eq_false (by intro e; cases e)) ?_⟩⟩
      refine ⟨_, rfl, _, _, _, _, false, rfl, .ty "dict", .base (.tup hq), kit_ty (by decide +kernel), _, rfl, iteF ?_⟩
      refine ⟨_, rfl, (by show 2 ≤ sizeLine; decide), fun t ht => ⟨_, t, _, _, [.type "list", .type "tuple"], true, rfl, upd_same, .cons (.ty _) (.cons (.ty _) .nil), .base (.tup (same_upd ht _ _ hq)), kit_tup, _, rfl, iteT ?_⟩⟩
      have s1 : Same H (upd H t (.tup [.ty "list", .ty "tuple"])) := same_upd ht
      have hp1 := s1 _ _ hp
      have hq1 := s1 _ _ hq
      refine ⟨_, rfl, _, _, _, _, false, rfl, .ty "list", .base (.tup hp1), kit_ty (by decide +kernel), _, rfl, _, _, _, _, false, rfl, .ty "list", .base (.tup hq1), kit_ty (by decide +kernel), rfl, _, rfl, ifF (by decide) ⟨_, rfl, _, _, _, _, true, rfl, .ty "tuple", .base (.tup hp1), kit_ty (by decide +kernel), _, rfl, _, _, _, _, true, rfl, .ty "tuple", .base (.tup hq1), kit_ty (by decide +kernel), rfl, _, rfl, ifF (by decide) ?_⟩⟩
      refine ⟨_, rfl, p', xs, rfl, .inr (.inl (.inl hp1)), _, rfl, q', ys, rfl, .inr (.inl (.inl hq1)), rfl, _, rfl, ifT (decide_eq_true (by rw [hl])) ?_⟩
      refine ⟨_, rfl, _, rfl, p', q', xs, ys, rfl, .inr ⟨.inl (.inl hp1), .inl (.inl hq1), fun D hD => ?_⟩⟩
      have fD := s1.free hD
      refine lc_it (zip_tuples (K := K) (a := p') (b := q') (xs := xs) (ys := ys) hl) (fun i H' => Same H H' ∧ H' D = some (.lst ((List.replicate i true).map V.bl))) ⟨same_put s1 fD, upd_same⟩
        (fun i H' _ hv => ⟨.inl (.inl (hv.1 _ _ hp)), .inl (.inl (hv.1 _ _ hq))⟩) ?_ ?_
      · rintro i v H' H2 hi ⟨sm, hDl⟩ ⟨t2, a1, a2, rfl, ht2, rfl, e1, e2⟩
        have s2 : Same H' (upd H' t2 (.tup [a1, a2])) := same_upd ht2
        refine ⟨t2, _, rfl, .inl (.inl upd_same), rfl, a1, [a2], rfl, a2, [], rfl, rfl, rfl, ?_⟩
        refine ⟨_, rfl, _, rfl, a1, a2, rfl, (hh i a1 a2 e1 e2).same (sm.trans s2), fun H3 s3 => ?_⟩
        refine ⟨_, s3 _ _ (s2 _ _ hDl), ?_, same_put (sm.trans (s2.trans s3)) fD, ?_⟩
        · rw [List.length_map, List.length_replicate]
          exact Nat.lt_of_lt_of_le hi (Nat.le_trans hz (by decide))
        · rw [upd_same, List.replicate_succ', List.map_append]
          rfl
      · rintro H' ⟨sm, hDl⟩
        refine ⟨D, List.replicate xs.length true, rfl, SqL.of hDl, ?_⟩
        have e : (List.replicate xs.length true).all id = true := by
          rw [List.all_eq_true]
          intro b hb
          exact (List.mem_replicate.mp hb).2
        rw [e]
        exact q _ sm
theorem ok_same {f : Addr} {fd : FuncData} (F : Fun K "_law_same" "_law_same" sSame f fd) (T : SameT mg) (gS : mg "_law_same" = some (.ref f)) (bS : Binds K fd ["_law_found", "_law_due"] []) : ∀ n : Nat, FnOk P w K mg base CX0 (n + 1) f fd ["_law_found", "_law_due"] (spSame n)
  | 0 => ok_same0 F T
  | n + 1 => ok_sameS (ok_same F T gS bS n) gS bS F T
end

abbrev sLettersOf : Stmt := topS 5
abbrev sSignOf : Stmt := topS 6
abbrev sSigned : Stmt := topS 7
theorem scLettersOf : FnScope ["text"] ["text"] (defScope sLettersOf) := ⟨rfl, rfl, rfl, by decide +kernel, rfl, by decide +kernel, by decide +kernel⟩
theorem scSignOf : FnScope ["text"] ["text"] (defScope sSignOf) := ⟨rfl, rfl, rfl, by decide +kernel, rfl, by decide +kernel, by decide +kernel⟩
theorem scSigned : FnScope ["turns", "letters"] ["turns", "letters"] (defScope sSigned) := ⟨rfl, rfl, rfl, by decide +kernel, rfl, by decide +kernel, by decide +kernel⟩
section
variable {P : Program} {w : World} {K : PySem.W.Frag} {mg : Str → Option Value} {base : Heap}
theorem ok_letters {f : Addr} {fd : FuncData} (F : Fun K "letters_of" "letters_of" sLettersOf f fd) : FnOk P w K mg base CX0 1 f fd ["text"] spLetters := by
  refine F.ok scLettersOf (fun vs H Q E h => ?_) (fun cdv A outer s H vs Q E hr h => ?_)
  · obtain ⟨ts, rfl, _⟩ := h
    rfl
  · obtain ⟨ts, rfl, hz, q⟩ := h
    refine ⟨_, pss_one (ps_ret (pe_m1 PySem.F.slot_str_removeprefix PySem.F.type_str_removeprefix mt_removeprefix (pv 0) pe_str)), ?_⟩
    refine ⟨_, rfl, ⟨_, rfl⟩, txt ts, Str.ofString "-", rfl, rfl, by rw [txt_len]; exact hz, ?_⟩
    rw [remove_minus]
    exact q
theorem ok_signof {f fL : Addr} {fd fdL : FuncData} (F : Fun K "sign_of" "sign_of" sSignOf f fd) (FL : Fun K "letters_of" "letters_of" sLettersOf fL fdL) (bL : Binds K fdL ["text"] []) (gL : mg "letters_of" = some (.ref fL)) (ml : mg "len" = none) : FnOk P w K mg base CX0 2 f fd ["text"] spSignOf := by
  have GL : FnOk P w K mg base CX0 1 fL fdL ["text"] spLetters := ok_letters FL
  refine F.ok scSignOf (fun vs H Q E h => ?_) (fun cdv A outer s H vs Q E hr h => ?_)
  · obtain ⟨ts, rfl, _⟩ := h
    rfl
  · obtain ⟨ts, rfl, hz, q⟩ := h
    refine ⟨_, pss_one (ps_ret (pe_op op_sub (pe_callB call_len_str (by rfl) ml PySem.boot_len (pa_cons (pv 0) pa_nil)) (pe_callB call_len_str (by rfl) ml PySem.boot_len (pa_cons (pe_call GL hr (by rfl) gL FL.kp bL .nil pass0 (pa_cons (pv 0) pa_nil)) pa_nil)))), ?_⟩
    have e := letters_len ts
    refine ⟨_, rfl, _, rfl, by rw [txt_len]; exact hz, _, rfl, ts, rfl, hz, _, rfl, by rw [txt_len]; omega, _, _, rfl, rfl, ?_⟩
    have e2 : ((txt ts).length : Int) - ((txt (lettersL ts)).length : Int) = (signL ts : Int) := by
      rw [txt_len, txt_len]; omega
    show Q (.int (((txt ts).length : Int) - ((txt (lettersL ts)).length : Int))) H
    rw [e2]
    exact q
theorem ok_signed {f : Addr} {fd : FuncData} (F : Fun K "signed" "signed" sSigned f fd) : FnOk P w K mg base CX0 1 f fd ["turns", "letters"] spSigned := by
  refine F.ok scSigned (fun vs H Q E h => ?_) (fun cdv A outer s H vs Q E hr h => ?_)
  · obtain ⟨t, cs, rfl, _⟩ := h
    rfl
  · obtain ⟨t, cs, rfl, hz, q⟩ := h
    refine ⟨_, pss_one (ps_ret (pe_ifExp (pt_cmpR op_eq (pe_op op_mod (pv 0) pe_int) pe_int (nomark _)) (pe_op op_add_str pe_str (pv 1)) (pv 1))), ?_⟩
    refine ⟨_, rfl, _, _, rfl, rfl, (by dsimp only; decide), rfl, _, rfl, ite2 (fun h => ?_) (fun h => ?_)⟩
    · have e := V.int.inj (of_decide_eq_true h)
      refine ⟨_, rfl, _, _, rfl, rfl, by rw [txt_minus, txt_len, txt_len]; simp; omega, ?_⟩
      rw [txt_minus, txt_app]
      unfold signedL at q
      rw [if_pos e] at q
      exact q
    · have e : ¬ t % 2 = 1 := fun z => h (decide_eq_true (congrArg V.int z))
      unfold signedL at q
      rw [if_neg e] at q
      exact ⟨_, rfl, q⟩
end

abbrev sLSigned : Stmt := topS 23
theorem scLSigned : FnScope ["_law_mturned", "_law_body_here"] ["_law_mturned", "_law_body_here"] (defScope sLSigned) := ⟨rfl, rfl, rfl, by decide +kernel, rfl, by decide +kernel, by decide +kernel⟩
section
variable {P : Program} {w : World} {K : PySem.W.Frag} {mg : Str → Option Value} {base : Heap}
theorem ok_lsigned {f : Addr} {fd : FuncData} (F : Fun K "_law_signed" "_law_signed" sLSigned f fd) : FnOk P w K mg base CX0 1 f fd ["_law_mturned", "_law_body_here"] spLSigned := by
  refine F.ok scLSigned (fun vs H Q E h => ?_) (fun cdv A outer s H vs Q E hr h => ?_)
  · obtain ⟨t, cs, rfl, _⟩ := h
    rfl
  · obtain ⟨t, cs, rfl, hz, q⟩ := h
    refine ⟨_, pss_one (ps_ret (pe_op op_add_str (pe_ifExp (pt_cmpR op_eq (pe_op op_mod (pv 0) pe_int) pe_int (nomark _)) pe_str pe_str) (pv 1))), ?_⟩
    refine ⟨_, rfl, _, _, rfl, rfl, (by dsimp only; decide), rfl, _, rfl, ite2 (fun h => ?_) (fun h => ?_)⟩
    · have e := V.int.inj (of_decide_eq_true h)
      refine ⟨_, rfl, _, _, rfl, rfl, by rw [txt_minus, txt_len, txt_len]; simp; omega, ?_⟩
      rw [txt_minus, txt_app]
      unfold signedL at q
      rw [if_pos e] at q
      exact q
    · have e : ¬ t % 2 = 1 := fun z => h (decide_eq_true (congrArg V.int z))
      refine ⟨_, rfl, _, _, rfl, rfl, by rw [txt_empty, txt_len, txt_len]; simp; omega, ?_⟩
      rw [txt_empty, txt_app]
      unfold signedL at q
      rw [if_neg e] at q
      exact q
end

abbrev sLBody : Stmt := topS 22
theorem scLBody : FnScope ["_law_text"] ["_law_text"] (defScope sLBody) := ⟨rfl, rfl, rfl, by decide +kernel, rfl, by decide +kernel, by decide +kernel⟩
section
variable {P : Program} {w : World} {K : PySem.W.Frag} {mg : Str → Option Value} {base : Heap}
theorem first_is (ts : List Nat) : decide (V.str (cutS (txt ts) none (some 1)) = V.str (Str.ofString "-")) = decide (signL ts = 1) := by
  have e : cutS (txt ts) none (some ((1 : Nat) : Int)) = txt (ts.take 1) := cutS_take _ 1
  have e' : cutS (txt ts) none (some 1) = txt (ts.take 1) := e
  rw [e', txt_minus]
  cases ts with
  | nil => exact decide_eq_false (fun z => by cases txt_inj (V.str.inj z))
  | cons c r =>
    show decide (V.str (txt [c]) = V.str (txt [45])) = decide (signL (c :: r) = 1)
    by_cases h : c = 45
    · subst h
      rfl
    · have e0 : signL (c :: r) = 0 := if_neg h
      rw [decide_eq_false (fun z => h (List.head_eq_of_cons_eq (txt_inj (V.str.inj z)))), e0]
      rfl
theorem ok_lbody {f : Addr} {fd : FuncData} (F : Fun K "_law_body" "_law_body" sLBody f fd) : FnOk P w K mg base CX0 1 f fd ["_law_text"] spLBody := by
  refine F.ok scLBody (fun vs H Q E h => ?_) (fun cdv A outer s H vs Q E hr h => ?_)
  · obtain ⟨ts, rfl, _⟩ := h
    rfl
  · obtain ⟨ts, rfl, hz, q⟩ := h
    refine ⟨_, pss_one (ps_ret (pe_ifExp (pt_cmpR op_eq (pe_slice sl_str (pv 0) po_none (po_some pe_int)) pe_str (nomark _)) (pe_slice sl_str (pv 0) (po_some pe_int) po_none) (pv 0))), ?_⟩
    have tz : (txt ts).length ≤ sizeLine := by rw [txt_len]; exact Nat.le_of_lt (small1000 hz)
    refine ⟨_, rfl, 1, rfl, _, rfl, tz, rfl, _, rfl, ?_⟩
    rw [first_is]
    cases ts with
    | nil => exact iteF ⟨_, rfl, q⟩
    | cons c r =>
      by_cases h : c = 45
      · subst h
        have e : cutS (txt (45 :: r)) (some ((1 : Nat) : Int)) none = txt r := cutS_drop (45 :: r) 1
        have e' : cutS (txt (45 :: r)) (some 1) none = txt r := e
        refine iteT ⟨_, rfl, 1, rfl, _, rfl, tz, ?_⟩
        rw [e']
        exact q
      · have e1 : signL (c :: r) = 0 := if_neg h
        have e2 : lettersL (c :: r) = c :: r := if_neg h
        rw [e1]
        rw [e2] at q
        exact iteF ⟨_, rfl, q⟩
end


end T21

namespace T21
open PySem PySem.Spec PyProof.Rows L2 Tm
abbrev sIsStr : Stmt := topS 11
abbrev sChkS : Stmt := topS 12
abbrev sTwo : Stmt := topS 13
abbrev sMult : Stmt := topS 14
theorem scIsStr : FnScope ["text", "letter"] ["text"] (defScope sIsStr) := ⟨rfl, rfl, rfl, by decide +kernel, rfl, by decide +kernel, by decide +kernel⟩
theorem scChkS : FnScope ["text"] ["text"] (defScope sChkS) := ⟨rfl, rfl, rfl, by decide +kernel, rfl, by decide +kernel, by decide +kernel⟩
theorem scTwo : FnScope ["one", "other", "products", "turns", "left", "right", "text"] ["one", "other"] (defScope sTwo) := ⟨rfl, rfl, rfl, by decide +kernel, rfl, by decide +kernel, by decide +kernel⟩
theorem scMult : FnScope ["strings", "text", "total"] ["strings"] (defScope sMult) := ⟨rfl, rfl, rfl, by decide +kernel, rfl, by decide +kernel, by decide +kernel⟩
section
variable {P : Program} {w : World} {K : PySem.W.Frag} {mg : Str → Option Value} {base : Heap}
theorem ok_isstr {f fL : Addr} {fd fdL : FuncData} {t : Tok} (F : Fun K "is_string" "is_string" sIsStr f fd) (FL : Fun K "letters_of" "letters_of" sLettersOf fL fdL) (bL : Binds K fdL ["text"] []) (gL : mg "letters_of" = some (.ref fL)) (gA : mg "STRING_LETTERS" = some (.str (Str.ofString "1XZW") t)) (ma : mg "all" = none) :
    FnOk P w K mg base CX0 2 f fd ["text"] spIsStr := by
  have GL : FnOk P w K mg base CX0 1 fL fdL ["text"] spLetters := ok_letters FL
  refine F.ok scIsStr (fun vs H Q E h => ?_) (fun cdv A outer s H vs Q E hr h => ?_)
  · obtain ⟨ts, rfl, _⟩ := h
    rfl
  · obtain ⟨ts, rfl, hz, q⟩ := h
    refine ⟨_, pss_one (ps_ret (pe_callB (cr_all rfl) (by rfl) ma (by decide +kernel) (pa_cons (pe_lc (own := [("letter", 1)]) (g := gName 1) (tt := tYes) rfl scIsStr.nd (pi_str (pe_call GL hr (by rfl) gL FL.kp bL .nil pass0 (pa_cons (pv 0) pa_nil))) (blkOk_by (own := [("letter", 1)]) (N := ["text", "letter"]) (sc := defScope sIsStr) (by decide +kernel))
        (fun _ _ _ _ _ => pg_name (i := 1) scIsStr.nd rfl (Or.inl rfl)) (fun _ _ _ _ _ => pts_nil) (fun _ _ _ _ _ => pe_cmpR op_in_sign (pv 1) (pe_glob (v := .str (Str.ofString "1XZW")) rfl gA ⟨_, rfl⟩) (by rfl))) pa_nil))), ?_⟩
    have le := lettersL_le ts
    refine ⟨_, rfl, ts, rfl, Nat.le_of_lt (small1000 hz), _, rfl, fun D nD => ?_⟩
    have hsz : (txt (lettersL ts)).cps.size = (lettersL ts).length := txt_len _
    refine lc_it (walk_str (z := txt (lettersL ts))) (fun i H' => Same H H' ∧ H' D = some (.lst ((((lettersL ts).take i).map fun c => decide (c ∈ Al)).map V.bl))) ⟨same_upd nD, upd_same⟩ (fun _ _ _ _ => trivial) ?_ ?_
    · rintro i v H1 H2 hi ⟨s1, hD⟩ ⟨rfl, c, hc, rfl⟩
      rw [hsz] at hi
      have ec := at_txt hc
      refine ⟨rfl, ?_⟩
      refine ⟨_, rfl, c, _, rfl, rfl, _, hD, ?_, same_put s1 nD, ?_⟩
      · rw [List.length_map, List.length_map, List.length_take]
        exact small1000 (by omega)
      · rw [upd_same, List.take_succ, ec, List.map_append, List.map_append, txt_al, txt_cps]
        rfl
    · rintro H1 ⟨s1, hD⟩
      rw [hsz, List.take_length] at hD
      refine ⟨D, _, rfl, SqL.of hD, ?_⟩
      rw [List.all_map]
      exact q H1 s1
theorem ok_chks {f fI fL : Addr} {fd fdI fdL : FuncData} {t : Tok} (F : Fun K "check_string" "check_string" sChkS f fd) (FI : Fun K "is_string" "is_string" sIsStr fI fdI) (bI : Binds K fdI ["text"] []) (gI : mg "is_string" = some (.ref fI))
    (FL : Fun K "letters_of" "letters_of" sLettersOf fL fdL) (bL : Binds K fdL ["text"] []) (gL : mg "letters_of" = some (.ref fL)) (gA : mg "STRING_LETTERS" = some (.str (Str.ofString "1XZW") t)) (ma : mg "all" = none) : FnOk P w K mg base CX0 3 f fd ["text"] spChkS := by
  have GI : FnOk P w K mg base CX0 2 fI fdI ["text"] spIsStr := ok_isstr FI FL bL gL gA ma
  refine F.ok scChkS (fun vs H Q E h => ?_) (fun cdv A outer s H vs Q E hr h => ?_)
  · obtain ⟨ts, rfl, _⟩ := h
    rfl
  · obtain ⟨ts, rfl, hz, al, q⟩ := h
    refine ⟨_, pss_one (ps_if (pt_not (pt_val (pe_call GI hr (by rfl) gI FI.kp bI .nil pass0 (pa_cons (pv 0) pa_nil)))) pss_never pss_nil), ?_⟩
    refine ⟨_, rfl, ts, rfl, hz, fun H1 s1 => ⟨_, rfl, ?_⟩⟩
    rw [all_al al]
    exact iteF (q H1 s1)
theorem ok_two {f fL fO fS pd : Addr} {fd fdL fdO fdS : FuncData} (F : Fun K "product_of_two" "product_of_two" sTwo f fd) (FL : Fun K "letters_of" "letters_of" sLettersOf fL fdL) (bL : Binds K fdL ["text"] []) (gL : mg "letters_of" = some (.ref fL))
    (FO : Fun K "sign_of" "sign_of" sSignOf fO fdO) (bO : Binds K fdO ["text"] []) (gO : mg "sign_of" = some (.ref fO)) (FS : Fun K "signed" "signed" sSigned fS fdS) (bS : Binds K fdS ["turns", "letters"] []) (gS : mg "signed" = some (.ref fS))
    (gD : mg "PRODUCTS" = some (.ref pd)) (KD : ∀ a ∈ Al, ∀ b ∈ Al, KDct K w pd (txt [a, b]) (tv (pP a b))) (ml : mg "len" = none) (ms : mg "sum" = none) (mz : mg "zip" = none) : FnOk P w K mg base CX0 3 f fd ["one", "other"] spTwo := by
  have GL : FnOk P w K mg base CX0 1 fL fdL ["text"] spLetters := ok_letters FL
  have GO : FnOk P w K mg base CX0 2 fO fdO ["text"] spSignOf := ok_signof FO FL bL gL ml
  have GS : FnOk P w K mg base CX0 1 fS fdS ["turns", "letters"] spSigned := ok_signed FS
  refine F.ok scTwo (fun vs H Q E h => ?_) (fun cdv A outer s H vs Q E hr h => ?_)
  · obtain ⟨n, x, y, rfl, _⟩ := h
    rfl
  · obtain ⟨n, x, y, rfl, hn, hx, hy, q⟩ := h
    have hr1 : Room 1 _ := hr.mono (by decide)
    refine ⟨_, pss_cons (ps_setLc (i := 2) (own := [("left", 4), ("right", 5)]) (g := gTup K 2 (gCons (gName 4) (gCons (gName 5) gNil))) (tt := tYes) rfl scTwo.nd rfl rfl (sw_true rfl rfl rfl (by decide +kernel))
        (pi_zipS (by rfl) mz (pa_cons (pe_call GL hr1 (by rfl) gL FL.kp bL .nil pass0 (pa_cons (pv 0) pa_nil)) (pa_cons (pe_call GL hr1 (by rfl) gL FL.kp bL .nil pass0 (pa_cons (pv 1) pa_nil)) pa_nil)))
        (blkOk_by (own := [("left", 4), ("right", 5)]) (N := ["one", "other", "products", "turns", "left", "right", "text"]) (sc := defScope sTwo) (by decide +kernel))
        (fun _ _ _ _ _ => pg_tup rfl (pgs_cons (pg_name (i := 4) scTwo.nd rfl (Or.inl rfl)) (pgs_cons (pg_name (i := 5) scTwo.nd rfl (Or.inl rfl)) pgs_nil))) (fun _ _ _ _ _ => pts_nil)
        (fun _ _ _ _ _ => pe_ix (r := rIxD K w) ix_kdict (pe_glob (v := .ref pd) rfl gD rfl) (pe_op op_add_str (pv 4) (pv 5)) (fun _ _ => rfl)))
      (pss_cons (ps_set (i := 3) scTwo.nd rfl (.inl rfl) (pe_op op_add (pe_op op_add (pe_call GO hr (by rfl) gO FO.kp bO .nil pass0 (pa_cons (pv 0) pa_nil)) (pe_call GO hr (by rfl) gO FO.kp bO .nil pass0 (pa_cons (pv 1) pa_nil)))
        (pe_callB (cr_sum rfl) (by rfl) ms boot_sum (pa_cons (pe_lc (own := [("text", 6)]) (g := gName 6) (tt := tYes) rfl scTwo.nd (pi_list (pv 2)) (blkOk_by (own := [("text", 6)]) (N := ["one", "other", "products", "turns", "left", "right", "text"]) (sc := defScope sTwo) (by decide +kernel))
          (fun _ _ _ _ _ => pg_name (i := 6) scTwo.nd rfl (Or.inl rfl)) (fun _ _ _ _ _ => pts_nil) (fun _ _ _ _ _ => pe_call GO hr (by rfl) gO FO.kp bO .nil pass0 (pa_cons (pv 6) pa_nil))) pa_nil))))
      (pss_one (ps_ret (pe_call GS hr1 (by rfl) gS FS.kp bS .nil pass0 (pa_cons (pv 3) (pa_cons (pe_join pe_str (pe_lc (own := [("text", 6)]) (g := gName 6) (tt := tYes) rfl scTwo.nd (pi_list (pv 2)) (blkOk_by (own := [("text", 6)]) (N := ["one", "other", "products", "turns", "left", "right", "text"]) (sc := defScope sTwo) (by decide +kernel))
          (fun _ _ _ _ _ => pg_name (i := 6) scTwo.nd rfl (Or.inl rfl)) (fun _ _ _ _ _ => pts_nil) (fun _ _ _ _ _ => pe_call GL hr1 (by rfl) gL FL.kp bL .nil pass0 (pa_cons (pv 6) pa_nil)))) pa_nil)))))), ?_⟩
    obtain ⟨sx, lx, ax⟩ := hx.len
    obtain ⟨sy, ly, ay⟩ := hy.len
    have plen : (prodsL (lettersL x) (lettersL y)).length = n := by
      unfold prodsL
      rw [List.length_zipWith]; omega
    have pal := prods_al ax ay
    have short : ∀ z ∈ prodsL (lettersL x) (lettersL y), z.length ≤ 2 := fun z hz => by
      obtain ⟨a, ha, b, hb, rfl⟩ := pal z hz
      exact (p_form a ha b hb).2.2.2
    have at_i : ∀ {i : Nat} {v : V}, ((prodsL (lettersL x) (lettersL y)).map tv)[i]? = some v → ∃ z, (prodsL (lettersL x) (lettersL y))[i]? = some z ∧ v = tv z ∧ z.length ≤ 2 := by
      intro i v hv
      rw [List.getElem?_map] at hv
      cases ex : (prodsL (lettersL x) (lettersL y))[i]? with
      | none => rw [ex] at hv; cases hv
      | some z =>
        rw [ex] at hv
        exact ⟨z, rfl, (Option.some.inj hv).symm, short z (List.mem_of_getElem? ex)⟩
    have zx : x.length ≤ sizeLine := Nat.le_of_lt (small1000 (by omega))
    have zy : y.length ≤ sizeLine := Nat.le_of_lt (small1000 (by omega))
    refine ⟨_, rfl, x, rfl, zx, _, rfl, y, rfl, zy, lettersL x, lettersL y, rfl, fun D nD => ?_⟩
    refine lc_it walk_zipS (fun i H' => Same H H' ∧ H' D = some (.lst (((prodsL (lettersL x) (lettersL y)).take i).map tv))) ⟨same_upd nD, upd_same⟩ (fun _ _ _ _ => trivial) ?_ ?_
    · rintro i v H1 H2 hi ⟨s1, hD⟩ ⟨T, c, d, rfl, nT, rfl, hc, hd⟩
      have ec := prods_at hc hd
      have hca : c ∈ Al := ax c (List.mem_of_getElem? hc)
      have hda : d ∈ Al := ay d (List.mem_of_getElem? hd)
      refine ⟨T, _, rfl, .inl (.inl upd_same), rfl, _, _, rfl, _, _, rfl, rfl, rfl, ?_⟩
      refine ⟨_, rfl, _, rfl, _, _, rfl, rfl, by show 1 + 1 ≤ sizeLine; decide, pd, txt [c, d], _, rfl, congrArg V.str (txt_app [c] [d]), KD c hca d hda, ?_⟩
      refine ⟨_, (same_upd nT) _ _ hD, ?_, same_put (s1.trans (same_upd nT)) nD, ?_⟩
      · rw [List.length_map, List.length_take]
        exact small1000 (by omega)
      · rw [upd_same, List.take_succ, ec, List.map_append]
        rfl
    rintro H1 ⟨s1, hD⟩
    have efull : (prodsL (lettersL x) (lettersL y)).take (min (lettersL x).length (lettersL y).length) = prodsL (lettersL x) (lettersL y) := List.take_of_length_le (by omega)
    rw [efull] at hD
    have len : ((prodsL (lettersL x) (lettersL y)).map tv).length = n := by rw [List.length_map, plen]
    refine ⟨_, rfl, x, rfl, zx, _, rfl, y, rfl, zy, _, _, rfl, rfl, _, rfl, D, rfl, ⟨_, SqL.of hD⟩, fun D2 nD2 => ?_⟩
    refine lc_list (K := K) (a := D) (xs := (prodsL (lettersL x) (lettersL y)).map tv) (fun i H' => Same H1 H' ∧ H' D2 = some (.lst ((((prodsL (lettersL x) (lettersL y)).take i).map signL).map fun n : Nat => V.int n))) ⟨same_upd nD2, upd_same⟩ (fun i H' _ hv => SqL.of (hv.1 _ _ hD)) ?_ ?_
    · rintro i v H2 hv ⟨s2, hD2⟩
      obtain ⟨z, ez, rfl, hz⟩ := at_i hv
      have hi : i < (prodsL (lettersL x) (lettersL y)).length := (List.getElem?_eq_some_iff.mp ez).1
      refine ⟨rfl, ?_⟩
      refine ⟨_, rfl, z, rfl, Nat.le_of_lt (small1000 (by omega)), _, hD2, ?_, same_put s2 nD2, ?_⟩
      · rw [List.length_map, List.length_map, List.length_take]
        exact small1000 (by omega)
      · rw [upd_same, List.take_succ, ez, List.map_append, List.map_append]
        rfl
    rintro H2 ⟨s2, hD2⟩
    rw [len, ← plen, List.take_length] at hD2
    have hD3 : H2 D2 = some (.lst ((((prodsL (lettersL x) (lettersL y)).map signL).map fun n : Nat => (n : Int)).map V.int)) := by
      rw [hD2, List.map_map (f := fun n : Nat => (n : Int))]
      rfl
    refine ⟨D2, _, rfl, SqL.of hD3, _, _, rfl, rfl, _, rfl, ⟨_, rfl⟩, _, rfl, D, rfl, ⟨_, SqL.of (s2 _ _ hD)⟩, fun D4 nD4 => ?_⟩
    refine lc_list (K := K) (a := D) (xs := (prodsL (lettersL x) (lettersL y)).map tv) (fun i H' => Same H2 H' ∧ H' D4 = some (.lst ((((prodsL (lettersL x) (lettersL y)).take i).map lettersL).map tv))) ⟨same_upd nD4, upd_same⟩ (fun i H' _ hv => SqL.of (hv.1 _ _ (s2 _ _ hD))) ?_ ?_
    · rintro i v H3 hv ⟨s3, hD4⟩
      obtain ⟨z, ez, rfl, hz⟩ := at_i hv
      have hi : i < (prodsL (lettersL x) (lettersL y)).length := (List.getElem?_eq_some_iff.mp ez).1
      refine ⟨rfl, ?_⟩
      refine ⟨_, rfl, z, rfl, Nat.le_of_lt (small1000 (by omega)), _, hD4, ?_, same_put s3 nD4, ?_⟩
      · rw [List.length_map, List.length_map, List.length_take]
        exact small1000 (by omega)
      · rw [upd_same, List.take_succ, ez, List.map_append, List.map_append]
        rfl
    rintro H3 ⟨s3, hD4⟩
    rw [len, ← plen, List.take_length] at hD4
    have hD5 : H3 D4 = some (.lst ((((prodsL (lettersL x) (lettersL y)).map lettersL).map txt).map V.str)) := by
      rw [hD4, List.map_map (f := txt)]
      rfl
    have zl := zL_len (as := lettersL x) (bs := lettersL y) (by omega)
    refine ⟨Str.ofString "", D4, ((prodsL (lettersL x) (lettersL y)).map lettersL).map txt, rfl, rfl, .inl (SqL.of hD5), ?_, ?_⟩
    · rw [lens_txt, prods_letters _ _ ax ay, zl, txt_empty, txt_len]
      simp
      omega
    rw [join_txt, prods_letters _ _ ax ay, sum_int, prods_sign]
    refine ⟨_, zL (lettersL x) (lettersL y), rfl, small1000 (by omega), ?_⟩
    have e := q H3 ((s1.trans s2).trans s3)
    unfold two at e
    rw [Int.natCast_add, Int.natCast_add] at e
    exact e
end


end T21

namespace T21
open PySem PySem.Spec PyProof.Rows L2 Tm
abbrev sComm : Stmt := topS 15
abbrev sIden : Stmt := topS 16
theorem scComm : FnScope ["one", "other"] ["one", "other"] (defScope sComm) := ⟨rfl, rfl, rfl, by decide +kernel, rfl, by decide +kernel, by decide +kernel⟩
theorem scIden : FnScope ["size"] ["size"] (defScope sIden) := ⟨rfl, rfl, rfl, by decide +kernel, rfl, by decide +kernel, by decide +kernel⟩
section
variable {P : Program} {w : World} {K : PySem.W.Frag} {mg : Str → Option Value} {base : Heap}
theorem ok_mult {f fC fI fT fL fO fS pd : Addr} {fd fdC fdI fdT fdL fdO fdS : FuncData} {t : Tok} (F : Fun K "multiply" "multiply" sMult f fd) (FC : Fun K "check_string" "check_string" sChkS fC fdC) (bC : Binds K fdC ["text"] []) (gC : mg "check_string" = some (.ref fC))
    (FI : Fun K "is_string" "is_string" sIsStr fI fdI) (bI : Binds K fdI ["text"] []) (gI : mg "is_string" = some (.ref fI)) (FT : Fun K "product_of_two" "product_of_two" sTwo fT fdT) (bT : Binds K fdT ["one", "other"] []) (gT : mg "product_of_two" = some (.ref fT))
    (FL : Fun K "letters_of" "letters_of" sLettersOf fL fdL) (bL : Binds K fdL ["text"] []) (gL : mg "letters_of" = some (.ref fL))
    (FO : Fun K "sign_of" "sign_of" sSignOf fO fdO) (bO : Binds K fdO ["text"] []) (gO : mg "sign_of" = some (.ref fO)) (FS : Fun K "signed" "signed" sSigned fS fdS) (bS : Binds K fdS ["turns", "letters"] []) (gS : mg "signed" = some (.ref fS))
    (gA : mg "STRING_LETTERS" = some (.str (Str.ofString "1XZW") t)) (gD : mg "PRODUCTS" = some (.ref pd)) (KD : ∀ a ∈ Al, ∀ b ∈ Al, KDct K w pd (txt [a, b]) (tv (pP a b))) (ml : mg "len" = none) (ms : mg "sum" = none) (mz : mg "zip" = none) (ma : mg "all" = none) :
    FnR P w K mg base CX0 4 f spMult := by
  have GL : FnOk P w K mg base CX0 1 fL fdL ["text"] spLetters := ok_letters FL
  have GC : FnOk P w K mg base CX0 3 fC fdC ["text"] spChkS := ok_chks FC FI bI gI FL bL gL gA ma
  have GT : FnOk P w K mg base CX0 3 fT fdT ["one", "other"] spTwo := ok_two FT FL bL gL FO bO gO FS bS gS gD KD ml ms mz
  rcases F.ex with ⟨_, _, _, _, _, _, cdv, _, _, rfl, look, code⟩
  refine FnR.imp (StX.fn_star (ps := []) (pv := "strings") (sp := spMultT) (k := 3) look code scMult StX.cxUp_none ?bind ?body) ?imp
  case bind =>
    intro us rest h
    match us, rest, h with
    | [], [], _ => rfl
    | [], r :: rs, _ => rfl
  case imp =>
    rintro vs H Q E ⟨n, xss, rfl, hn, few, all, q⟩
    refine ⟨[], _, rfl, rfl, ?_, fun p np => ⟨p, n, xss, rfl, upd_same, hn, few, all, fun H' s' => q H' ((same_upd np).trans s')⟩⟩
    rw [List.length_map]
    exact Nat.le_of_lt (small1000 (by omega))
  case body =>
    intro A outer s H vs Q E hr h
    obtain ⟨p, n, xss, rfl, hp, hn, few, all, q⟩ := h
    have hr1 : Room 1 _ := hr.mono (by decide)
    refine ⟨_, PSs.nox (pss_cons (ps_for PassesOwn.never rfl (pi_tup (pv 0)) (pg_name (i := 1) scMult.nd rfl (.inl rfl)) (pss_one (ps_expr (pe_call GC hr (by rfl) gC FC.kp bC .nil pass0 (pa_cons (pv 1) pa_nil)))))
      (pss_cons (ps_if (pt_cmpR op_gt (pe_callB call_lenI (by rfl) ml PySem.boot_len (pa_cons (pe_setI (own := [("text", 1)]) (g := gName 1) rfl scMult.nd (pi_tup (pv 0)) (blkOk_by (own := [("text", 1)]) (N := ["strings", "text", "total"]) (sc := defScope sMult) (by decide +kernel))
          (fun _ _ _ _ _ => pg_name (i := 1) scMult.nd rfl (Or.inl rfl)) (fun _ _ _ _ _ => pe_callB call_len_str (by rfl) ml PySem.boot_len (pa_cons (pe_call GL hr1 (by rfl) gL FL.kp bL .nil pass0 (pa_cons (pv 1) pa_nil)) pa_nil))) pa_nil)) pe_int (nomark _)) pss_never pss_nil)
      (pss_cons (ps_if (pt_cmpR op_eq (pe_callB call_len_seq (by rfl) ml PySem.boot_len (pa_cons (pv 0) pa_nil)) pe_int (nomark _)) (pss_one (ps_ret pe_str)) pss_nil)
      (pss_cons (ps_set (i := 2) scMult.nd rfl (.inl rfl) (pe_ix ix_tup (pv 0) pe_int (fun _ _ => rfl)))
      (pss_cons (ps_for PassesOwn.never rfl (pi_tup (pe_slice sl_tup (pv 0) (po_some pe_int) po_none)) (pg_name (i := 1) scMult.nd rfl (.inl rfl)) (pss_one (ps_set (i := 2) scMult.nd rfl (.inl rfl) (pe_call GT hr (by rfl) gT FT.kp bT .nil pass0 (pa_cons (pv 2) (pa_cons (pv 1) pa_nil))))))
      (pss_one (ps_ret (pv 2)))))))), ?_⟩
    have len : (xss.map tv).length = xss.length := List.length_map ..
    have at_i : ∀ {i : Nat} {v : V}, (xss.map tv)[i]? = some v → ∃ x, xss[i]? = some x ∧ v = tv x ∧ Sn n x := by
      intro i v hv
      rw [List.getElem?_map] at hv
      cases ex : xss[i]? with
      | none => rw [ex] at hv; cases hv
      | some x =>
        rw [ex] at hv
        exact ⟨x, rfl, (Option.some.inj hv).symm, all x (List.mem_of_getElem? ex)⟩
    refine ⟨_, rfl, p, rfl, ⟨_, .inl (.inl hp)⟩, ?_⟩
    refine for_it (walk_tup (xs := xss.map tv)) (fun i σ H' => ∃ y, σ = [some (.ref p), y, none] ∧ Same H H') ⟨none, rfl, fun _ _ h => h⟩ (fun i σ H' _ ⟨_, _, s1⟩ => .inl (.inl (s1 _ _ hp))) ?_ ?_
    · rintro i v σ H1 H2 hi ⟨y, rfl, s1⟩ ⟨rfl, hv⟩
      obtain ⟨x, ex, rfl, hx⟩ := at_i hv
      obtain ⟨zx, lx, ax⟩ := hx.len
      exact ⟨_, rfl, x, rfl, by omega, ax, fun H3 s3 => ⟨_, rfl, s1.trans s3⟩⟩
    rintro σ H1 ⟨y, rfl, s1⟩
    refine ⟨_, rfl, p, rfl, ⟨_, .inl (.inl (s1 _ _ hp))⟩, fun D nD => ?_⟩
    refine setI_tup (K := K) (a := p) (xs := xss.map tv) (fun i H' => Same H1 H' ∧ ∃ (S : Int → Bool) (c : Nat), H' D = some (SetO w D S c) ∧ (∀ j, S j = decide (j = (n : Int) ∧ 0 < i)) ∧ c ≤ 1 ∧ (0 < i → c = 1) ∧ (i = 0 → c = 0))
      ⟨same_upd nD, _, 0, upd_same, fun j => (decide_eq_false (by omega)).symm, by omega, fun h => absurd h (Nat.lt_irrefl 0), fun _ => rfl⟩ (fun i H' _ hv => .inl (.inl (hv.1 _ _ (s1 _ _ hp)))) ?_ ?_
    · rintro i v H2 hv ⟨s2, S, c, hD, hS, c1, ci, c0⟩
      obtain ⟨x, ex, rfl, hx⟩ := at_i hv
      obtain ⟨zx, lx, ax⟩ := hx.len
      refine ⟨rfl, ?_⟩
      refine ⟨_, rfl, x, rfl, Nat.le_of_lt (small1000 (by omega)), _, rfl, by rw [txt_len]; exact Nat.le_of_lt (small1000 (by omega)), _, S, c, rfl, hD, by unfold scanBound; omega, same_put s2 nD, _, _, upd_same, ?_, ?_, ?_, ?_⟩
      all_goals (have ek : (((txt (lettersL x)).length : Nat) : Int) = (n : Int) := by rw [txt_len, lx])
      all_goals (have eS : S (((txt (lettersL x)).length : Nat) : Int) = decide (0 < i) := by rw [hS, ek]; by_cases z : 0 < i <;> simp [z])
      · intro j
        show (S j || decide (j = (((txt (lettersL x)).length : Nat) : Int))) = _
        rw [hS, ek]
        by_cases z : j = (n : Int) <;> simp [z]
      · rw [eS]
        by_cases z : 0 < i
        · rw [decide_eq_true z, if_pos rfl]; exact c1
        · rw [decide_eq_false z, if_neg Bool.false_ne_true, c0 (by omega)]
          exact Nat.le_refl _
      · intro _
        rw [eS]
        by_cases z : 0 < i
        · rw [decide_eq_true z, if_pos rfl]; exact ci z
        · rw [decide_eq_false z, if_neg Bool.false_ne_true, c0 (by omega)]
      · intro z
        omega
    rintro H2 ⟨s2, S, c, hD, hS, c1, ci, c0⟩
    have hp2 : H2 p = some (.tup (xss.map tv)) := s2 _ _ (s1 _ _ hp)
    have no : decide (((1 : Int)) < ((c : Nat) : Int)) = false := decide_eq_false (by omega)
    refine ⟨D, S, c, rfl, hD, by omega, _, _, rfl, rfl, _, rfl, ?_⟩
    rw [no]
    refine iteF ?_
    refine ⟨_, rfl, p, _, rfl, .inr (.inl (.inl hp2)), rfl, _, rfl, ?_⟩
    cases xss with
    | nil =>
      refine iteT ?_
      have e := q H2 (s1.trans s2)
      unfold multL tv at e
      rw [← txt_empty] at e
      exact e
    | cons x0 r =>
      have nz : decide (V.int ((((x0 :: r).map tv).length : Nat) : Int) = V.int 0) = false := decide_eq_false fun z => by
        have z2 := V.int.inj z
        rw [List.length_map, List.length_cons] at z2
        omega
      rw [nz]
      refine iteF ?_
      refine ⟨_, rfl, p, _, _, tv x0, rfl, rfl, .inl (.inl hp2), atI_nat (j := 0) (xs := (x0 :: r).map tv) rfl, ?_⟩
      have whole : ¬ (HT.sIx ((x0 :: r).map tv).length 0 (some 1) = 0 ∧ HT.sIx ((x0 :: r).map tv).length ((x0 :: r).map tv).length none = ((x0 :: r).map tv).length) := by
        rintro ⟨z, _⟩
        have z2 : HT.sIx ((x0 :: r).map tv).length 0 (some ((1 : Nat) : Int)) = 0 := z
        rw [HT.sIx_nat, List.length_map, List.length_cons] at z2
        omega
      refine ⟨_, rfl, 1, rfl, p, _, rfl, .inl (.inl hp2), whole, fun o no => ?_⟩
      have ecut : cutV ((x0 :: r).map tv) (some 1) none = r.map tv := cutV_drop ((x0 :: r).map tv) 1
      rw [ecut]
      refine ⟨o, rfl, ⟨_, .inl (.inl upd_same)⟩, ?_⟩
      have h0 : Sn n x0 := all x0 List.mem_cons_self
      have hr' : ∀ y ∈ r, Sn n y := fun y hy => all y (List.mem_cons_of_mem _ hy)
      have lenr : (r.map tv).length = r.length := List.length_map ..
      refine for_it (walk_tup (xs := r.map tv)) (fun i σ H' => ∃ y, σ = [some (.ref p), y, some (tv ((r.take i).foldl two x0))] ∧ Same (upd H2 o (.tup (r.map tv))) H') ⟨_, rfl, fun _ _ h => h⟩ (fun i σ H' _ ⟨_, _, s3⟩ => .inl (.inl (s3 _ _ upd_same))) ?_ ?_
      · rintro i v σ H3 H4 hi ⟨y, rfl, s3⟩ ⟨rfl, hv⟩
        rw [lenr] at hi
        rw [List.getElem?_map, List.getElem?_eq_getElem hi] at hv
        have ev : v = tv r[i] := (Option.some.inj hv).symm
        subst ev
        have part : Sn n ((r.take i).foldl two x0) := Sn.fold h0 fun y hy => hr' y (List.mem_of_mem_take hy)
        refine ⟨_, rfl, _, rfl, n, _, r[i], rfl, hn, part, hr' _ (List.getElem_mem hi), fun H5 s5 => ⟨some (tv r[i]), ?_, s3.trans s5⟩⟩
        rw [List.take_succ_eq_append_getElem hi, fold_snoc]
        rfl
      · rintro σ H3 ⟨y, rfl, s3⟩
        rw [lenr, List.take_length]
        exact ⟨_, rfl, q H3 ((s1.trans s2).trans ((same_upd no).trans s3))⟩
theorem ok_comm {f fM : Addr} {fd fdM : FuncData} (F : Fun K "commute" "commute" sComm f fd) (GM : FnR P w K mg base CX0 4 fM spMult) (kM : PySem.W.keepIn K (.ref fM) = true) (gM : mg "multiply" = some (.ref fM)) : FnOk P w K mg base CX0 5 f fd ["one", "other"] spComm := by
  refine F.ok scComm (fun vs H Q E h => ?_) (fun cdv A outer s H vs Q E hr h => ?_)
  · obtain ⟨n, x, y, rfl, _⟩ := h
    rfl
  · obtain ⟨n, x, y, rfl, hn, hx, hy, q⟩ := h
    refine ⟨_, pss_one (ps_ret (pe_cmpR op_eq (pe_place GM hr kM (by rfl) gM pass0 (pa_cons (pv 0) (pa_cons (pv 1) pa_nil))) (pe_place GM hr kM (by rfl) gM pass0 (pa_cons (pv 1) (pa_cons (pv 0) pa_nil))) (nomark _))), ?_⟩
    have both : ∀ {a b : List Nat}, Sn n a → Sn n b → ∀ z ∈ [a, b], Sn n z := fun ha hb z hz => by
      rcases List.mem_cons.mp hz with rfl | hz
      · exact ha
      · rw [List.mem_singleton.mp hz]; exact hb
    refine ⟨_, rfl, _, rfl, n, [x, y], rfl, hn, by show 2 ≤ 20; decide, both hx hy, fun H1 s1 => ⟨_, rfl, _, rfl, n, [y, x], rfl, hn, by show 2 ≤ 20; decide, both hy hx, fun H2 s2 => ⟨rfl, ?_⟩⟩⟩
    have e : decide (tv (multL [x, y]) = tv (multL [y, x])) = cmB x y := by
      unfold cmB
      apply decide_eq_decide.mpr
      exact ⟨fun z => txt_inj (V.str.inj z), fun z => congrArg tv z⟩
    rw [e]
    exact q H2 (s1.trans s2)
theorem ok_iden {f : Addr} {fd : FuncData} (F : Fun K "identity" "identity" sIden f fd) : FnOk P w K mg base CX0 1 f fd ["size"] spIden := by
  refine F.ok scIden (fun vs H Q E h => ?_) (fun cdv A outer s H vs Q E hr h => ?_)
  · obtain ⟨n, rfl, _⟩ := h
    rfl
  · obtain ⟨n, rfl, hn, q⟩ := h
    refine ⟨_, pss_one (ps_ret (pe_op op_times pe_str (pv 0))), ?_⟩
    exact ⟨_, rfl, 49, n, (by decide +kernel), rfl, by omega, q⟩
end

abbrev sLString : Stmt := topS 27
theorem scLString : FnScope ["_law_bag_here", "_law_size", "_law_k"] ["_law_bag_here", "_law_size"] (defScope sLString) := ⟨rfl, rfl, rfl, by decide +kernel, rfl, by decide +kernel, by decide +kernel⟩
section
variable {P : Program} {w : World} {K : PySem.W.Frag} {mg : Str → Option Value} {base : Heap}
theorem ok_lstring {f fP fO fS : Addr} {fd fdP fdO fdS : FuncData} (F : Fun K "_law_string" "_law_string" sLString f fd) (FP : Fun K "_law_pull" "_law_pull" sPull fP fdP) (bP : Binds K fdP ["_law_bag_here", "_law_many"] []) (gP : mg "_law_pull" = some (.ref fP))
    (FO : Fun K "_law_of" "_law_of" sOf fO fdO) (bO : Binds K fdO ["_law_bag_here", "_law_things"] []) (gO : mg "_law_of" = some (.ref fO)) (FS : Fun K "_law_signed" "_law_signed" sLSigned fS fdS) (bS : Binds K fdS ["_law_mturned", "_law_body_here"] []) (gS : mg "_law_signed" = some (.ref fS))
    (ml : mg "len" = none) (mr : mg "range" = none) : FnOk P w K mg base CX0 3 f fd ["_law_bag_here", "_law_size"] spString := by
  have GP : FnOk P w K mg base CX0 1 fP fdP ["_law_bag_here", "_law_many"] spPull := ok_pull FP ml
  have GO : FnOk P w K mg base CX0 2 fO fdO ["_law_bag_here", "_law_things"] (spOf K) := ok_of FO FP bP gP ml
  have GS : FnOk P w K mg base CX0 1 fS fdS ["_law_mturned", "_law_body_here"] spLSigned := ok_lsigned FS
  refine F.ok scLString (fun vs H Q E h => ?_) (fun cdv A outer s H vs Q E hr h => ?_)
  · obtain ⟨b, l, n, rfl, _⟩ := h
    rfl
  · obtain ⟨b, l, n, rfl, B0, hn, q⟩ := h
    have hr1 : Room 1 _ := hr.mono (by decide)
    refine ⟨_, pss_one (ps_ret (pe_call GS hr1 (by rfl) gS FS.kp bS .nil pass0 (pa_cons (pe_call GP hr1 (by rfl) gP FP.kp bP .nil pass0 (pa_cons (pv 0) (pa_cons pe_int pa_nil))) (pa_cons (pe_join pe_str (pe_lc (own := [("_law_k", 2)]) (g := gName 2) (tt := tYes) rfl scLString.nd (pi_range1 (by rfl) mr (pa_cons (pv 1) pa_nil)) (blkOk_by (own := [("_law_k", 2)]) (N := ["_law_bag_here", "_law_size", "_law_k"]) (sc := defScope sLString) (by decide +kernel))
        (fun _ _ _ _ _ => pg_name (i := 2) scLString.nd rfl (Or.inl rfl)) (fun _ _ _ _ _ => pts_nil) (fun _ _ _ _ _ => (pe_call GO hr (by rfl) gO FO.kp bO .nil pass0 (pa_cons (pv 0) (pa_cons pe_str pa_nil)))))) pa_nil)))), ?_⟩
    refine ⟨_, rfl, b, l, 2, rfl, B0, by decide, by decide, fun J d kj BJ d0 d1 => ?_⟩
    refine ⟨⟨_, rfl⟩, _, rfl, _, rfl, by omega, by omega, fun D nD => ?_⟩
    have nDb : D ≠ b := BJ.nb nD
    refine lc_range (lo := 0) (n := ((n : Nat) : Int).toNat) (fun i H' => Kp b J H' ∧ Bag H' b l ∧ ∃ cs : List Nat, H' D = some (.lst (cs.map sig)) ∧ cs.length = i ∧ Al4 cs)
      ⟨Kp.new nD, BJ.new nD, [], upd_same, rfl, fun c hc => absurd hc List.not_mem_nil⟩ ?_ ?_
    · rintro j H' hj ⟨kp, B', cs, hD, hlen, hmem⟩
      refine ⟨rfl, ?_⟩
      refine ⟨_, rfl, b, l, _, (five.map sig), rfl, B', .inr ⟨_, rfl, by rw [txt_five, txt_len]; decide, by rw [txt_five, txt_cps]⟩, by decide, by decide, fun H2 x kp2 B2 hx => ?_⟩
      obtain ⟨c, hc, rfl⟩ := List.mem_map.mp hx
      have hcA : c ∈ Al := (show ∀ c ∈ five, c ∈ Al by decide) c hc
      refine ⟨_, kp2 _ _ nDb hD, by rw [List.length_map, hlen]; exact small1000 (by omega), (kp.trans kp2).put nD, B2.put nDb (BJ.nl nD), cs ++ [c], ?_, by rw [List.length_append, hlen]; rfl, ?_⟩
      · rw [upd_same, List.map_append]
        rfl
      · intro c2 h2
        rcases List.mem_append.mp h2 with h2 | h2
        · exact hmem _ h2
        · rw [List.mem_singleton.mp h2]; exact hcA
    rintro H7 ⟨k7, B7, cs, hD7, hcl, hcm⟩
    have hu : H7 D = some (.lst ((cs.map fun c => txt [c]).map V.str)) := by
      rw [hD7, List.map_map]
      rfl
    refine ⟨Str.ofString "", D, cs.map (fun c => txt [c]), rfl, rfl, .inl (SqL.of hu), ?_, ?_⟩
    · rw [len_ones, txt_empty, txt_len]; simp; omega
    rw [join_sigs]
    refine ⟨_, cs, rfl, small1000 (by omega), ?_⟩
    rw [signed_wd]
    exact q H7 _ (kj.trans k7) B7 ⟨_, cs, rfl, by omega, hcm⟩
end


end T21

namespace T21
open PySem PySem.Spec PyProof.Rows L2 Tm
abbrev sLTab : Stmt := topS 24
abbrev sLTimes : Stmt := topS 25
abbrev sLTAll : Stmt := topS 26
theorem scLTab : FnScope [] [] (defScope sLTab) := ⟨rfl, rfl, rfl, by decide +kernel, rfl, by decide +kernel, by decide +kernel⟩
theorem scLTimes : FnScope ["_law_first", "_law_last", "_law_known", "_law_found", "_law_mturned", "_law_one", "_law_other", "_law_sign"] ["_law_first", "_law_last"] (defScope sLTimes) := ⟨rfl, rfl, rfl, by decide +kernel, rfl, by decide +kernel, by decide +kernel⟩
theorem scLTAll : FnScope ["_law_strings_in", "_law_size", "_law_found", "_law_one"] ["_law_strings_in", "_law_size"] (defScope sLTAll) := ⟨rfl, rfl, rfl, by decide +kernel, rfl, by decide +kernel, by decide +kernel⟩
section
variable {P : Program} {w : World} {K : PySem.W.Frag} {mg : Str → Option Value} {base : Heap}
theorem ok_ltab {f : Addr} {fd : FuncData} (F : Fun K "_law_table_of_products" "_law_table_of_products" sLTab f fd) : FnOk P w K mg base CX0 1 f fd [] spTab := by
  refine F.ok scLTab (fun vs H Q E h => ?_) (fun cdv A outer s H vs Q E hr h => ?_)
  · obtain ⟨rfl, _⟩ := h
    rfl
  · obtain ⟨rfl, q⟩ := h
    refine ⟨_, pss_one (ps_ret (pe_disp16 (ps := ptabS) (.cons pe_str pe_str (.cons pe_str pe_str (.cons pe_str pe_str (.cons pe_str pe_str (.cons pe_str pe_str (.cons pe_str pe_str (.cons pe_str pe_str (.cons pe_str pe_str (.cons pe_str pe_str (.cons pe_str pe_str (.cons pe_str pe_str (.cons pe_str pe_str (.cons pe_str pe_str (.cons pe_str pe_str (.cons pe_str pe_str (.cons pe_str pe_str (.nil))))))))))))))))) rfl)), fun p np => ?_⟩
    rw [tab_is]
    exact q _ p (same_upd np) np upd_same
theorem ok_ltimes {f fT fY fS : Addr} {fd fdT fdY fdS : FuncData} (F : Fun K "_law_times" "_law_times" sLTimes f fd) (FT : Fun K "_law_table_of_products" "_law_table_of_products" sLTab fT fdT) (bT : Binds K fdT [] []) (gT : mg "_law_table_of_products" = some (.ref fT))
    (FY : Fun K "_law_body" "_law_body" sLBody fY fdY) (bY : Binds K fdY ["_law_text"] []) (gY : mg "_law_body" = some (.ref fY)) (FS : Fun K "_law_signed" "_law_signed" sLSigned fS fdS) (bS : Binds K fdS ["_law_mturned", "_law_body_here"] []) (gS : mg "_law_signed" = some (.ref fS))
    (mi : mg "int" = none) (mz : mg "zip" = none) : FnOk P w K mg base CX0 2 f fd ["_law_first", "_law_last"] spTwo := by
  have GT : FnOk P w K mg base CX0 1 fT fdT [] spTab := ok_ltab FT
  have GY : FnOk P w K mg base CX0 1 fY fdY ["_law_text"] spLBody := ok_lbody FY
  have GS : FnOk P w K mg base CX0 1 fS fdS ["_law_mturned", "_law_body_here"] spLSigned := ok_lsigned FS
  refine F.ok scLTimes (fun vs H Q E h => ?_) (fun cdv A outer s H vs Q E hr h => ?_)
  · obtain ⟨n, x, y, rfl, _⟩ := h
    rfl
  · obtain ⟨n, x, y, rfl, hn, hx, hy, q⟩ := h
    have hu := hu_of hr
    refine ⟨_, pss_cons (ps_par (i := 2) (j := 3) rfl scLTimes.nd rfl rfl (by decide) rfl rfl (pa_cons (pe_call0 GT hr (by rfl) gT FT.kp bT .nil pass0) (pa_cons pe_str pa_nil)) rfl)
      (pss_cons (ps_set (i := 4) scLTimes.nd rfl (.inl rfl) (pe_op op_add (pe_callTy call_int1 (by rfl) mi boot_int (pa_cons (pe_cmpR op_eq (pe_slice sl_str (pv 0) po_none (po_some pe_int)) pe_str (nomark _)) pa_nil)) (pe_callTy call_int1 (by rfl) mi boot_int (pa_cons (pe_cmpR op_eq (pe_slice sl_str (pv 1) po_none (po_some pe_int)) pe_str (nomark _)) pa_nil))))
      (pss_cons (ps_for PassesOwn.never rfl (pi_zipS (by rfl) mz (pa_cons (pe_call GY hr (by rfl) gY FY.kp bY .nil pass0 (pa_cons (pv 0) pa_nil)) (pa_cons (pe_call GY hr (by rfl) gY FY.kp bY .nil pass0 (pa_cons (pv 1) pa_nil)) pa_nil)))
        (pg_tup rfl (pgs_cons (pg_name (i := 5) scLTimes.nd rfl (.inl rfl)) (pgs_cons (pg_name (i := 6) scLTimes.nd rfl (.inl rfl)) pgs_nil)))
        (pss_cons (ps_set (i := 7) scLTimes.nd rfl (.inl rfl) (pe_dget hu (pv 2) (pe_op op_add_str (pv 5) (pv 6)) (fun _ _ => rfl)))
        (pss_cons (ps_set (i := 3) scLTimes.nd rfl (.inl rfl) (pe_op op_add_str (pv 3) (pe_ix ix_str (pv 7) (pe_un un_neg pe_int) (fun _ _ => rfl))))
        (pss_one (ps_set (i := 4) scLTimes.nd rfl (.inl rfl) (pe_op op_add (pv 4) (pe_callTy call_int1 (by rfl) mi boot_int (pa_cons (pe_cmpR op_eq (pe_slice sl_str (pv 7) po_none (po_some pe_int)) pe_str (nomark _)) pa_nil))))))))
      (pss_one (ps_ret (pe_call GS hr (by rfl) gS FS.kp bS .nil pass0 (pa_cons (pv 4) (pa_cons (pv 3) pa_nil))))))), ?_⟩
    obtain ⟨sx, lx, ax⟩ := hx.len
    obtain ⟨sy, ly, ay⟩ := hy.len
    have tx : (txt x).length ≤ sizeLine := by rw [txt_len]; exact Nat.le_of_lt (small1000 (by omega))
    have ty : (txt y).length ≤ sizeLine := by rw [txt_len]; exact Nat.le_of_lt (small1000 (by omega))
    refine ⟨rfl, fun H1 p s1 np hp => ⟨_, _, rfl, ?_⟩⟩
    refine ⟨_, rfl, 1, rfl, _, rfl, tx, rfl, .inr ⟨_, rfl, _, rfl, 1, rfl, _, rfl, ty, rfl, .inr ⟨_, rfl, _, _, rfl, rfl, ?_⟩⟩⟩
    refine ⟨_, rfl, x, rfl, by omega, _, rfl, y, rfl, by omega, lettersL x, lettersL y, rfl, ?_⟩
    have e0 : (if decide (V.str (cutS (txt x) none (some 1)) = V.str (Str.ofString "-")) = true then (1 : Int) else 0) + (if decide (V.str (cutS (txt y) none (some 1)) = V.str (Str.ofString "-")) = true then (1 : Int) else 0) = ((signL x + signL y : Nat) : Int) := by
      rw [first_is, first_is, bit_sign, bit_sign, Int.natCast_add]
    refine for_it walk_zipS (fun i σ H' => ∃ y5 y6 y7 : Option V, σ = [some (tv x), some (tv y), some (.ref p), some (tv ((zL (lettersL x) (lettersL y)).take i)), some (.int ((signL x + signL y + ((List.zipWith pS (lettersL x) (lettersL y)).take i).sum : Nat) : Int)), y5, y6, y7] ∧ Same H1 H')
      ⟨none, none, none, ?_, fun _ _ h => h⟩ (fun _ _ _ _ _ => trivial) ?_ ?_
    · rw [txt_empty]
      dsimp only
      rw [e0]
      rfl
    · rintro i v σ H2 H3 hi ⟨y5, y6, y7, rfl, s2⟩ ⟨T, c, d, rfl, nT, rfl, hc, hd⟩
      have hca : c ∈ Al := ax c (List.mem_of_getElem? hc)
      have hda : d ∈ Al := ay d (List.mem_of_getElem? hd)
      have pf := p_form c hca d hda
      refine ⟨T, _, rfl, .inl (.inl upd_same), rfl, _, _, rfl, _, _, rfl, rfl, ?_⟩
      have hp3 := (same_upd (o := .tup [sig c, sig d]) nT) _ _ (s2 _ _ hp)
      have bit := bit_sign (pP c d)
      have zp : (txt (pP c d)).length ≤ sizeLine := by rw [txt_len]; exact Nat.le_of_lt (small1000 (by omega))
      have zl := zL_len (as := lettersL x) (bs := lettersL y) (by omega)
      refine ⟨_, rfl, _, rfl, _, rfl, _, _, rfl, rfl, by show 1 + 1 ≤ sizeLine; decide, p, tv (pP c d), rfl, ?_, ?_⟩
      · have e := DGet.k (k := Sum.inr (txt [c, d])) hp3
        rw [tab_at c hca d hda] at e
        have e2 : (V.str ((⟨#[c]⟩ : Str) ++ ⟨#[d]⟩)) = V.str (txt [c, d]) := congrArg V.str (txt_app [c] [d])
        exact (congrArg (fun z => DGet (upd H2 T (.tup [sig c, sig d])) p z (some (tv (pP c d)))) e2).mpr e
      refine ⟨_, rfl, _, rfl, _, rfl, txt (pP c d), _, pL c d, rfl, rfl, zp, by rw [txt_cps]; exact p_last c hca d hda, _, _, rfl, rfl, ?_, ?_⟩
      · rw [txt_len, List.length_take]
        show _ + 1 ≤ sizeLine
        exact small1000 (by omega)
      refine ⟨_, rfl, _, rfl, 1, rfl, _, rfl, zp, rfl, .inr ⟨_, rfl, _, _, rfl, rfl, some (sig c), some (sig d), some (tv (pP c d)), ?_, s2.trans (same_upd nT)⟩⟩
      dsimp only
      rw [first_is, bit, zL_take _ _ hc hd, zS_take _ _ hc hd]
      have e1 : txt ((zL (lettersL x) (lettersL y)).take i) ++ (⟨#[pL c d]⟩ : Str) = txt ((zL (lettersL x) (lettersL y)).take i ++ [pL c d]) := txt_app _ [pL c d]
      have e2 : ((signL x + signL y + ((List.zipWith pS (lettersL x) (lettersL y)).take i).sum : Nat) : Int) + ((signL (pP c d) : Nat) : Int) = ((signL x + signL y + (((List.zipWith pS (lettersL x) (lettersL y)).take i).sum + pS c d) : Nat) : Int) := by
        show _ + ((pS c d : Nat) : Int) = _
        omega
      rw [e1, e2]
      rfl
    · rintro σ H2 ⟨y5, y6, y7, rfl, s2⟩
      have zl := zL_len (as := lettersL x) (bs := lettersL y) (by omega)
      have full : (zL (lettersL x) (lettersL y)).take (min (lettersL x).length (lettersL y).length) = zL (lettersL x) (lettersL y) := List.take_of_length_le (by omega)
      have full2 : (List.zipWith pS (lettersL x) (lettersL y)).take (min (lettersL x).length (lettersL y).length) = List.zipWith pS (lettersL x) (lettersL y) := List.take_of_length_le (by rw [List.length_zipWith]; exact Nat.le_refl _)
      rw [full, full2]
      refine ⟨_, rfl, _, rfl, _, zL (lettersL x) (lettersL y), rfl, small1000 (by omega), ?_⟩
      exact q H2 (s1.trans s2)
theorem ok_ltall {f fM fT fY fS : Addr} {fd fdM fdT fdY fdS : FuncData} (F : Fun K "_law_times_all" "_law_times_all" sLTAll f fd) (FM : Fun K "_law_times" "_law_times" sLTimes fM fdM) (bM : Binds K fdM ["_law_first", "_law_last"] []) (gM : mg "_law_times" = some (.ref fM))
    (FT : Fun K "_law_table_of_products" "_law_table_of_products" sLTab fT fdT) (bT : Binds K fdT [] []) (gT : mg "_law_table_of_products" = some (.ref fT))
    (FY : Fun K "_law_body" "_law_body" sLBody fY fdY) (bY : Binds K fdY ["_law_text"] []) (gY : mg "_law_body" = some (.ref fY)) (FS : Fun K "_law_signed" "_law_signed" sLSigned fS fdS) (bS : Binds K fdS ["_law_mturned", "_law_body_here"] []) (gS : mg "_law_signed" = some (.ref fS))
    (mi : mg "int" = none) (mz : mg "zip" = none) : FnOk P w K mg base CX0 3 f fd ["_law_strings_in", "_law_size"] (spTAll K) := by
  have GM : FnOk P w K mg base CX0 2 fM fdM ["_law_first", "_law_last"] spTwo := ok_ltimes FM FT bT gT FY bY gY FS bS gS mi mz
  refine F.ok scLTAll (fun vs H Q E h => ?_) (fun cdv A outer s H vs Q E hr h => ?_)
  · obtain ⟨n, a, xss, rfl, _⟩ := h
    rfl
  · obtain ⟨n, a, xss, rfl, ha, hn, few, all, q⟩ := h
    refine ⟨_, pss_cons (ps_set (i := 2) scLTAll.nd rfl (.inl rfl) (pe_op op_times pe_str (pv 1)))
      (pss_cons (ps_for PassesOwn.never rfl (pi_list (pv 0)) (pg_name (i := 3) scLTAll.nd rfl (.inl rfl)) (pss_one (ps_set (i := 2) scLTAll.nd rfl (.inl rfl) (pe_call GM hr (by rfl) gM FM.kp bM .nil pass0 (pa_cons (pv 2) (pa_cons (pv 3) pa_nil))))))
      (pss_one (ps_ret (pv 2)))), ?_⟩
    refine ⟨_, rfl, 49, n, (by decide +kernel), rfl, by omega, ?_⟩
    have len : (xss.map tv).length = xss.length := List.length_map ..
    refine ⟨_, rfl, a, rfl, ⟨_, ha⟩, ?_⟩
    refine for_it (walk_list (xs := xss.map tv)) (fun i σ H' => ∃ y, σ = [some (.ref a), some (.int ((n : Nat) : Int)), some (tv ((xss.take i).foldl two (List.replicate n 49))), y] ∧ Same H H') ⟨none, rfl, fun _ _ h => h⟩ (fun i σ H' _ ⟨_, _, s1⟩ => s1.seq ha) ?_ ?_
    · rintro i v σ H1 H2 hi ⟨y, rfl, s1⟩ ⟨rfl, hv⟩
      rw [len] at hi
      rw [List.getElem?_map, List.getElem?_eq_getElem hi] at hv
      have ev : v = tv xss[i] := (Option.some.inj hv).symm
      subst ev
      have part : Sn n ((xss.take i).foldl two (List.replicate n 49)) := Sn.fold (Sn.one n) fun y hy => all y (List.mem_of_mem_take hy)
      refine ⟨_, rfl, _, rfl, n, _, xss[i], rfl, hn, part, all _ (List.getElem_mem hi), fun H3 s3 => ⟨some (tv xss[i]), ?_, s1.trans s3⟩⟩
      rw [List.take_succ_eq_append_getElem hi, fold_snoc]
      rfl
    · rintro σ H1 ⟨y, rfl, s1⟩
      rw [len, List.take_length]
      exact ⟨_, rfl, q H1 s1⟩
end


end T21

namespace T21
open PySem PySem.Spec PyProof.Rows L2 Tm
abbrev sLaw : Stmt := topS 28
theorem scLaw : FnScope ["_law_script", "_law_bag_here", "_law_turn", "_law_size", "_law_one", "_law_two", "_law_three", "_law_four", "_law_found", "_law_due", "_law_told", "_law_pairs", "_law_known", "_law_first", "_law_k", "_law_last", "_law_pair"] ["_law_script"] (defScope sLaw) := ⟨rfl, rfl, rfl, by decide +kernel, rfl, by decide +kernel, by decide +kernel⟩
section
variable {P : Program} {w : World} {K : PySem.W.Frag} {mg : Str → Option Value} {base : Heap}
set_option maxHeartbeats 4000000 in
theorem ok_law {f fB fP fO fS fY fG fL fN fH fI fK fW fM fC fD fT fU fV fE pd : Addr} {fd fdB fdP fdO fdS fdY fdG fdL fdN fdH fdI fdK fdW fdM fdC fdD fdT fdU fdV fdE : FuncData} {tk : Tok} (F : Fun K "law" "law" sLaw f fd)
    (FB : Fun K "_law_bag" "_law_bag" sBag fB fdB) (bB : Binds K fdB ["_law_script"] []) (gB : mg "_law_bag" = some (.ref fB))
    (FP : Fun K "_law_pull" "_law_pull" sPull fP fdP) (bP : Binds K fdP ["_law_bag_here", "_law_many"] []) (gP : mg "_law_pull" = some (.ref fP))
    (FO : Fun K "_law_of" "_law_of" sOf fO fdO) (bO : Binds K fdO ["_law_bag_here", "_law_things"] []) (gO : mg "_law_of" = some (.ref fO))
    (FS : Fun K "_law_signed" "_law_signed" sLSigned fS fdS) (bS : Binds K fdS ["_law_mturned", "_law_body_here"] []) (gS : mg "_law_signed" = some (.ref fS))
    (FY : Fun K "_law_body" "_law_body" sLBody fY fdY) (bY : Binds K fdY ["_law_text"] []) (gY : mg "_law_body" = some (.ref fY))
    (FG : Fun K "_law_string" "_law_string" sLString fG fdG) (bG : Binds K fdG ["_law_bag_here", "_law_size"] []) (gG : mg "_law_string" = some (.ref fG))
    (FL : Fun K "letters_of" "letters_of" sLettersOf fL fdL) (bL : Binds K fdL ["text"] []) (gL : mg "letters_of" = some (.ref fL))
    (FN : Fun K "sign_of" "sign_of" sSignOf fN fdN) (bN : Binds K fdN ["text"] []) (gN : mg "sign_of" = some (.ref fN))
    (FH : Fun K "signed" "signed" sSigned fH fdH) (bH : Binds K fdH ["turns", "letters"] []) (gH : mg "signed" = some (.ref fH))
    (FI : Fun K "is_string" "is_string" sIsStr fI fdI) (bI : Binds K fdI ["text"] []) (gI : mg "is_string" = some (.ref fI))
    (FK : Fun K "check_string" "check_string" sChkS fK fdK) (bK : Binds K fdK ["text"] []) (gK : mg "check_string" = some (.ref fK))
    (FW : Fun K "product_of_two" "product_of_two" sTwo fW fdW) (bW : Binds K fdW ["one", "other"] []) (gW : mg "product_of_two" = some (.ref fW))
    (FM : Fun K "multiply" "multiply" sMult fM fdM) (gM : mg "multiply" = some (.ref fM))
    (FC : Fun K "commute" "commute" sComm fC fdC) (bC : Binds K fdC ["one", "other"] []) (gC : mg "commute" = some (.ref fC))
    (FD : Fun K "identity" "identity" sIden fD fdD) (bD : Binds K fdD ["size"] []) (gD : mg "identity" = some (.ref fD))
    (FT : Fun K "_law_table_of_products" "_law_table_of_products" sLTab fT fdT) (bT : Binds K fdT [] []) (gT : mg "_law_table_of_products" = some (.ref fT))
    (FU : Fun K "_law_times" "_law_times" sLTimes fU fdU) (bU : Binds K fdU ["_law_first", "_law_last"] []) (gU : mg "_law_times" = some (.ref fU))
    (FV : Fun K "_law_times_all" "_law_times_all" sLTAll fV fdV) (bV : Binds K fdV ["_law_strings_in", "_law_size"] []) (gV : mg "_law_times_all" = some (.ref fV))
    (FE : Fun K "_law_same" "_law_same" sSame fE fdE) (bE : Binds K fdE ["_law_found", "_law_due"] []) (gE : mg "_law_same" = some (.ref fE))
    (gA : mg "STRING_LETTERS" = some (.str (Str.ofString "1XZW") tk)) (gD2 : mg "PRODUCTS" = some (.ref pd)) (KD : ∀ a ∈ Al, ∀ b ∈ Al, KDct K w pd (txt [a, b]) (tv (pP a b)))
    (TT : SameT mg) (ms : mg "sum" = none) (mr : mg "range" = none) : FnOk P w K mg base CX0 6 f fd ["_law_script"] (spLaw K) := by
  have ml := TT.len
  have mli := TT.list
  have mi := TT.int
  have mz := TT.zip
  have ma := TT.all
  have GB : FnOk P w K mg base CX0 1 fB fdB ["_law_script"] (spBag K) := ok_bag FB mli
  have GP : FnOk P w K mg base CX0 1 fP fdP ["_law_bag_here", "_law_many"] spPull := ok_pull FP ml
  have GO : FnOk P w K mg base CX0 2 fO fdO ["_law_bag_here", "_law_things"] (spOf K) := ok_of FO FP bP gP ml
  have GG : FnOk P w K mg base CX0 3 fG fdG ["_law_bag_here", "_law_size"] spString := ok_lstring FG FP bP gP FO bO gO FS bS gS ml mr
  have GM : FnR P w K mg base CX0 4 fM spMult := ok_mult FM FK bK gK FI bI gI FW bW gW FL bL gL FN bN gN FH bH gH gA gD2 KD ml ms mz ma
  have GC : FnOk P w K mg base CX0 5 fC fdC ["one", "other"] spComm := ok_comm (fdM := fdM) FC GM FM.kp gM
  have GD : FnOk P w K mg base CX0 1 fD fdD ["size"] spIden := ok_iden FD
  have GT : FnOk P w K mg base CX0 1 fT fdT [] spTab := ok_ltab FT
  have GU : FnOk P w K mg base CX0 2 fU fdU ["_law_first", "_law_last"] spTwo := ok_ltimes FU FT bT gT FY bY gY FS bS gS mi mz
  have GV : FnOk P w K mg base CX0 3 fV fdV ["_law_strings_in", "_law_size"] (spTAll K) := ok_ltall FV FU bU gU FT bT gT FY bY gY FS bS gS mi mz
  have GE : FnOk P w K mg base CX0 2 fE fdE ["_law_found", "_law_due"] (spSame 1) := ok_same FE TT gE bE 1
  refine F.ok scLaw (fun vs H Q E h => ?_) (fun cdv A outer s H vs Q E hr h => ?_)
  · obtain ⟨a, ns, rfl, _⟩ := h
    rfl
  · obtain ⟨a, ns, rfl, ha, hn, qq⟩ := h
    have hu := hu_of hr
    have hr4 : Room 4 _ := hr.mono (by decide)
    have hr3 : Room 3 _ := hr.mono (by decide)
    have hr2 : Room 2 _ := hr.mono (by decide)
    have hr1 : Room 1 _ := hr.mono (by decide)
    refine ⟨_, pss_cons (ps_set (i := 1) scLaw.nd rfl (.inr rfl) (pe_call GB hr1 (by rfl) gB FB.kp bB .nil pass0 (pa_cons (pv 0) pa_nil)))
      (pss_cons (ps_for PassesOwn.never rfl (pi_range1 (by rfl) mr (pa_cons pe_int pa_nil)) (pg_name (i := 2) scLaw.nd rfl (.inl rfl))
        (pss_cons (ps_set (i := 3) scLaw.nd rfl (.inr rfl) (pe_call GO hr2 (by rfl) gO FO.kp bO .nil pass0 (pa_cons (pv 1) (pa_cons (pe_lst (pa_cons (pe_call GP hr1 (by rfl) gP FP.kp bP .nil pass0 (pa_cons (pv 1) (pa_cons pe_int pa_nil))) (pa_cons (pe_call GP hr1 (by rfl) gP FP.kp bP .nil pass0 (pa_cons (pv 1) (pa_cons pe_int pa_nil))) (pa_cons pe_int pa_nil)))) pa_nil))))
        (pss_cons (ps_asg (pe_lc (own := [("_law_k", 14)]) (g := gName 14) (tt := tYes) rfl scLaw.nd (pi_range1 (by rfl) mr (pa_cons pe_int pa_nil)) (blkOk_by (own := [("_law_k", 14)]) (N := ["_law_script", "_law_bag_here", "_law_turn", "_law_size", "_law_one", "_law_two", "_law_three", "_law_four", "_law_found", "_law_due", "_law_told", "_law_pairs", "_law_known", "_law_first", "_law_k", "_law_last", "_law_pair"]) (sc := defScope sLaw) (by decide +kernel))
            (fun _ _ _ _ _ => pg_name (i := 14) scLaw.nd rfl (Or.inl rfl)) (fun _ _ _ _ _ => pts_nil) (fun _ _ _ _ _ => (pe_call GG hr3 (by rfl) gG FG.kp bG .nil pass0 (pa_cons (pv 1) (pa_cons (pv 3) pa_nil))))) (pg_lst rfl (pgs_cons (pg_name (i := 4) scLaw.nd rfl (.inr rfl)) (pgs_cons (pg_name (i := 5) scLaw.nd rfl (.inr rfl)) (pgs_cons (pg_name (i := 6) scLaw.nd rfl (.inr rfl)) (pgs_cons (pg_name (i := 7) scLaw.nd rfl (.inr rfl)) pgs_nil))))))
        (pss_cons (ps_set (i := 8) scLaw.nd rfl (.inl rfl) (pe_lst (pa_cons (pe_place GM hr4 FM.kp (by rfl) gM pass0 (pa_cons (pv 4) pa_nil)) (pa_cons (pe_place GM hr4 FM.kp (by rfl) gM pass0 (pa_cons (pv 4) (pa_cons (pv 5) pa_nil))) (pa_cons (pe_place GM hr4 FM.kp (by rfl) gM pass0 (pa_cons (pv 4) (pa_cons (pv 5) (pa_cons (pv 6) pa_nil)))) (pa_cons (pe_place GM hr4 FM.kp (by rfl) gM pass0 (pa_cons (pv 4) (pa_cons (pv 5) (pa_cons (pv 6) (pa_cons (pv 7) pa_nil))))) pa_nil))))))
        (pss_cons (ps_setLc (i := 9) (own := [("_law_k", 14)]) (g := gName 14) (tt := tYes) rfl scLaw.nd rfl rfl (sw_true rfl rfl rfl (by decide +kernel)) (pi_range2 (by rfl) mr (pa_cons pe_int (pa_cons pe_int pa_nil))) (blkOk_by (own := [("_law_k", 14)]) (N := ["_law_script", "_law_bag_here", "_law_turn", "_law_size", "_law_one", "_law_two", "_law_three", "_law_four", "_law_found", "_law_due", "_law_told", "_law_pairs", "_law_known", "_law_first", "_law_k", "_law_last", "_law_pair"]) (sc := defScope sLaw) (by decide +kernel))
            (fun _ _ _ _ _ => pg_name (i := 14) scLaw.nd rfl (Or.inl rfl)) (fun _ _ _ _ _ => pts_nil) (fun _ _ _ _ _ => (pe_call GV hr3 (by rfl) gV FV.kp bV .nil pass0 (pa_cons (pe_slice (r := rSlL K) sl_list (pe_lst (pa_cons (pv 4) (pa_cons (pv 5) (pa_cons (pv 6) (pa_cons (pv 7) pa_nil))))) po_none (po_some (pv 14))) (pa_cons (pv 3) pa_nil)))))
        (pss_cons (ps_if (pt_not (pt_val (pe_call GE hr2 (by rfl) gE FE.kp bE .nil pass0 (pa_cons (pv 8) (pa_cons (pv 9) pa_nil))))) pss_never pss_nil)
        (pss_cons (ps_set (i := 10) scLaw.nd rfl (.inl rfl) (pe_place GM hr4 FM.kp (by rfl) gM pass0 (pa_cons (pv 4) (pa_cons (pv 5) (pa_cons (pv 6) (pa_cons (pv 7) (pa_cons (pv 7) (pa_cons (pv 6) (pa_cons (pv 5) (pa_cons (pv 4) (pa_cons (pv 4) (pa_cons (pv 6) pa_nil))))))))))))
        (pss_cons (ps_if (pt_not (pt_val (pe_call GE hr2 (by rfl) gE FE.kp bE .nil pass0 (pa_cons (pv 10) (pa_cons (pe_call GV hr3 (by rfl) gV FV.kp bV .nil pass0 (pa_cons (pe_lst (pa_cons (pv 4) (pa_cons (pv 5) (pa_cons (pv 6) (pa_cons (pv 7) (pa_cons (pv 7) (pa_cons (pv 6) (pa_cons (pv 5) (pa_cons (pv 4) (pa_cons (pv 4) (pa_cons (pv 6) pa_nil))))))))))) (pa_cons (pv 3) pa_nil))) pa_nil))))) pss_never pss_nil)
        (pss_cons (ps_set (i := 9) scLaw.nd rfl (.inl rfl) (pe_cmpR op_eq (pe_call GU hr2 (by rfl) gU FU.kp bU .nil pass0 (pa_cons (pv 4) (pa_cons (pv 5) pa_nil))) (pe_call GU hr2 (by rfl) gU FU.kp bU .nil pass0 (pa_cons (pv 5) (pa_cons (pv 4) pa_nil))) (nomark _)))
        (pss_one (ps_if (pt_not (pt_val (pe_call GE hr2 (by rfl) gE FE.kp bE .nil pass0 (pa_cons (pe_lst (pa_cons (pe_call GC hr (by rfl) gC FC.kp bC .nil pass0 (pa_cons (pv 4) (pa_cons (pv 5) pa_nil))) (pa_cons (pe_call GC hr (by rfl) gC FC.kp bC .nil pass0 (pa_cons (pv 5) (pa_cons (pv 4) pa_nil))) (pa_cons (pe_call GC hr (by rfl) gC FC.kp bC .nil pass0 (pa_cons (pv 4) (pa_cons (pv 4) pa_nil))) (pa_cons (pe_call GD hr1 (by rfl) gD FD.kp bD .nil pass0 (pa_cons (pv 3) pa_nil)) pa_nil))))) (pa_cons (pe_lst (pa_cons (pv 9) (pa_cons (pv 9) (pa_cons pe_bl (pa_cons (pe_op op_times pe_str (pv 3)) pa_nil))))) pa_nil))))) pss_never pss_nil)))))))))))
      (pss_cons (ps_asg (pe_tup (pa_cons (pe_lst pa_nil) (pa_cons (pe_call0 GT hr1 (by rfl) gT FT.kp bT .nil pass0) pa_nil))) (pg_tup rfl (pgs_cons (pg_name (i := 11) scLaw.nd rfl (.inl rfl)) (pgs_cons (pg_name (i := 12) scLaw.nd rfl (.inr rfl)) pgs_nil))))
      (pss_cons (ps_for PassesOwn.never rfl (pi_str pe_str) (pg_name (i := 13) scLaw.nd rfl (.inr rfl))
        (pss_one (ps_set (i := 11) scLaw.nd rfl (.inl rfl) (pe_op op_cat (pv 11) (pe_lc (own := [("_law_last", 15)]) (g := gName 15) (tt := tYes) rfl scLaw.nd (pi_str pe_str) (blkOk_by (own := [("_law_last", 15)]) (N := ["_law_script", "_law_bag_here", "_law_turn", "_law_size", "_law_one", "_law_two", "_law_three", "_law_four", "_law_found", "_law_due", "_law_told", "_law_pairs", "_law_known", "_law_first", "_law_k", "_law_last", "_law_pair"]) (sc := defScope sLaw) (by decide +kernel))
            (fun _ _ _ _ _ => pg_name (i := 15) scLaw.nd rfl (Or.inl rfl)) (fun _ _ _ _ _ => pts_nil) (fun _ _ _ _ _ => (pe_op op_add_str (pv 13) (pv 15))))))))
      (pss_one (ps_ret (pe_and (pe_call GE hr2 (by rfl) gE FE.kp bE .nil pass0 (pa_cons (pe_lst (pa_cons (pe_place0 GM hr4 FM.kp (by rfl) gM pass0) (pa_cons (pe_place GM hr4 FM.kp (by rfl) gM pass0 (pa_cons pe_str (pa_cons pe_str pa_nil))) (pa_cons (pe_place GM hr4 FM.kp (by rfl) gM pass0 (pa_cons pe_str (pa_cons pe_str pa_nil))) pa_nil)))) (pa_cons (pe_lst (pa_cons pe_str (pa_cons pe_str (pa_cons pe_str pa_nil)))) pa_nil))) (pe_one (pe_cmpR (op_eqD hr.units) (pe_lc (own := [("_law_pair", 16)]) (g := gName 16) (tt := tYes) rfl scLaw.nd (pi_list (pv 11)) (blkOk_by (own := [("_law_pair", 16)]) (N := ["_law_script", "_law_bag_here", "_law_turn", "_law_size", "_law_one", "_law_two", "_law_three", "_law_four", "_law_found", "_law_due", "_law_told", "_law_pairs", "_law_known", "_law_first", "_law_k", "_law_last", "_law_pair"]) (sc := defScope sLaw) (by decide +kernel))
            (fun _ _ _ _ _ => pg_name (i := 16) scLaw.nd rfl (Or.inl rfl)) (fun _ _ _ _ _ => pts_nil) (fun _ _ _ _ _ => (pe_place GM hr4 FM.kp (by rfl) gM pass0 (pa_cons (pe_ix ix_str (pv 16) pe_int (fun _ _ => rfl)) (pa_cons (pe_ix ix_str (pv 16) pe_int (fun _ _ => rfl)) pa_nil))))) (pe_lc (own := [("_law_pair", 16)]) (g := gName 16) (tt := tYes) rfl scLaw.nd (pi_list (pv 11)) (blkOk_by (own := [("_law_pair", 16)]) (N := ["_law_script", "_law_bag_here", "_law_turn", "_law_size", "_law_one", "_law_two", "_law_three", "_law_four", "_law_found", "_law_due", "_law_told", "_law_pairs", "_law_known", "_law_first", "_law_k", "_law_last", "_law_pair"]) (sc := defScope sLaw) (by decide +kernel))
            (fun _ _ _ _ _ => pg_name (i := 16) scLaw.nd rfl (Or.inl rfl)) (fun _ _ _ _ _ => pts_nil) (fun _ _ _ _ _ => (pe_dget hu (pv 12) (pv 16) (fun _ _ => rfl)))) (nomark _))))))))), ?_⟩
    refine ⟨_, rfl, a, ns, rfl, ha, fun H0 b l s0 nb nl B0 => ?_⟩
    refine ⟨6, rfl, by decide, by decide, ?_⟩
    refine for_range (lo := 0) (n := 6) (fun i σ H' => ∃ y2 y3 y4 y5 y6 y7 y8 y9 y10 y11 y12 y13 y14 y15 y16 : Option V, σ = [some (.ref a), some (.ref b), y2, y3, y4, y5, y6, y7, y8, y9, y10, y11, y12, y13, y14, y15, y16] ∧ Bag H' b l) ⟨none, none, none, none, none, none, none, none, none, none, none, none, none, none, none, rfl, B0⟩ ?_ ?_
    · rintro i σ H1 hi ⟨y2, y3, y4, y5, y6, y7, y8, y9, y10, y11, y12, y13, y14, y15, y16, rfl, B1⟩
      refine ⟨_, rfl, _, rfl, b, l, 4, rfl, B1, by decide, by decide, fun H2 d1 k2 B2 d10 d11 => ⟨_, rfl, b, l, 13, rfl, B2, by decide, by decide, fun H3 d2 k3 B3 d20 d21 => ⟨(by show 3 ≤ sizeLine; decide), fun p np => ?_⟩⟩⟩
      refine ⟨b, l, .ref p, [.int d1, .int d2, .int 40], rfl, B3.new np, .inl ⟨p, rfl, B3.nb np, SqL.of upd_same⟩, by show 0 < 3; decide, by show 3 < 1073741824; decide, fun H4 v k4 B4 hv => ?_⟩
      obtain ⟨n, rfl, hn⟩ : ∃ n : Nat, v = .int ((n : Nat) : Int) ∧ n ≤ 900 := by
        simp only [List.mem_cons, List.not_mem_nil, or_false] at hv
        rcases hv with rfl | rfl | rfl
        · exact ⟨d1.toNat, by rw [Int.toNat_of_nonneg d10], by omega⟩
        · exact ⟨d2.toNat, by rw [Int.toNat_of_nonneg d20], by omega⟩
        · exact ⟨40, rfl, by decide⟩
      refine ⟨4, rfl, by decide, by decide, fun D nD => ?_⟩
      have nDb : D ≠ b := B4.nb nD
      refine lc_range (lo := 0) (n := 4) (fun i H' => Bag H' b l ∧ ∃ xss : List (List Nat), H' D = some (.lst (xss.map tv)) ∧ xss.length = i ∧ ∀ x ∈ xss, Sn n x)
        ⟨B4.new nD, [], upd_same, rfl, fun x hx => absurd hx List.not_mem_nil⟩ ?_ ?_
      · rintro j H' hj ⟨B', xss, hD, hlen, hall⟩
        refine ⟨rfl, ?_⟩
        refine ⟨_, rfl, _, rfl, b, l, n, rfl, B', hn, fun H5 x k5 B5 hx => ?_⟩
        refine ⟨_, k5 _ _ nDb hD, by rw [List.length_map, hlen]; exact small1000 (by omega), B5.put nDb (B4.nl nD), xss ++ [x], ?_, by rw [List.length_append, hlen]; rfl, ?_⟩
        · rw [upd_same, List.map_append]
          rfl
        · intro z hz
          rcases List.mem_append.mp hz with hz | hz
          · exact hall _ hz
          · rw [List.mem_singleton.mp hz]; exact hx
      rintro H5 ⟨B5, xss, hD, hlen, hall⟩
      match xss, hlen with
      | [x, y, z, u], _ =>
      have hx := hall x (by simp)
      have hy := hall y (by simp)
      have hz := hall z (by simp)
      have hu' := hall u (by simp)
      clear hall
      have ok : ∀ {yss : List (List Nat)}, (∀ v ∈ yss, v = x ∨ v = y ∨ v = z ∨ v = u) → ∀ v ∈ yss, Sn n v := fun {yss} h v hv => by
        rcases h v hv with e | e | e | e <;> rw [e] <;> assumption
      refine ⟨D, _, rfl, SqL.of hD, rfl, _, _, rfl, _, _, rfl, _, _, rfl, _, _, rfl, rfl, ?_⟩
      -- products of one to four
      refine ⟨_, rfl, n, [x], rfl, hn, by show 1 ≤ 20; decide, ok (by simp), fun H6 s6 => ⟨_, rfl, _, rfl, n, [x, y], rfl, hn, by show 2 ≤ 20; decide, ok (by simp), fun H7 s7 => ⟨_, rfl, _, rfl, _, rfl, n, [x, y, z], rfl, hn, by show 3 ≤ 20; decide, ok (by simp), fun H8 s8 =>
        ⟨_, rfl, _, rfl, _, rfl, _, rfl, n, [x, y, z, u], rfl, hn, by show 4 ≤ 20; decide, ok (by simp), fun H9 s9 => ⟨(by show 4 ≤ sizeLine; decide), fun q1 nq1 => ?_⟩⟩⟩⟩⟩
      have hq1 : (upd H9 q1 (.lst [tv (multL [x]), tv (multL [x, y]), tv (multL [x, y, z]), tv (multL [x, y, z, u])])) q1 = some (.lst ((List.range 4).map fun j => tv (multL ([x, y, z, u].take (j + 1))))) := upd_same
      have sB : Same H5 (upd H9 q1 (.lst [tv (multL [x]), tv (multL [x, y]), tv (multL [x, y, z]), tv (multL [x, y, z, u])])) := (s6.trans (s7.trans (s8.trans s9))).trans (same_upd nq1)
      generalize upd H9 q1 (.lst [tv (multL [x]), tv (multL [x, y]), tv (multL [x, y, z]), tv (multL [x, y, z, u])]) = H10 at hq1 sB ⊢
      refine ⟨1, 5, rfl, ⟨by decide, by decide, by decide, by decide⟩, fun D2 nD2 => ?_⟩
      refine lc_range (lo := 1) (n := 4) (fun j H' => Same H10 H' ∧ H' D2 = some (.lst ((List.range j).map fun j => tv (multL ([x, y, z, u].take (j + 1)))))) ⟨same_upd nD2, upd_same⟩ ?_ ?_
      · rintro j H' hj ⟨s', hD2⟩
        refine ⟨rfl, ?_⟩
        have ecut : cutV ([x, y, z, u].map tv) none (some (1 + (j : Int))) = ([x, y, z, u].take (j + 1)).map tv := by
          rw [show (1 : Int) + (j : Int) = (((j + 1 : Nat)) : Int) from by omega, cutV_take, List.map_take]
        refine ⟨_, rfl, _, rfl, _, rfl, _, rfl, (by show 4 ≤ sizeLine; decide), fun r nr => ⟨_, rfl, 1 + (j : Int), rfl, r, [x, y, z, u].map tv, rfl, SqL.of upd_same, fun r2 nr2 => ?_⟩⟩
        rw [ecut]
        have efold : ([x, y, z, u].take (j + 1)).foldl two (List.replicate n 49) = multL ([x, y, z, u].take (j + 1)) := all_mult _ hx
        refine ⟨_, rfl, n, r2, [x, y, z, u].take (j + 1), rfl, SqL.of upd_same, hn, by rw [List.length_take]; simp; omega, ok (fun v hv => by simpa using List.mem_of_mem_take hv), fun H2 s2 => ?_⟩
        rw [efold]
        have s3 := s'.trans ((same_upd nr).trans ((same_upd nr2).trans s2))
        refine ⟨_, s2 _ _ ((same_upd nr2) _ _ ((same_upd nr) _ _ hD2)), by rw [List.length_map, List.length_range]; exact small1000 (by omega), same_put s3 nD2, ?_⟩
        rw [upd_same, List.range_succ, List.map_append]
        rfl
      rintro H11 ⟨s11, hD2⟩
      refine ⟨_, rfl, _, rfl, _, _, rfl, .lst (s11 _ _ hq1) hD2 rfl (by show 4 ≤ 10000; decide) (fun k v v' hv hv' => ?_), fun H12 s12 => ⟨true, rfl, iteF ?_⟩⟩
      · rw [hv] at hv'
        cases hv'
        obtain ⟨j, _, rfl⟩ := List.mem_map.mp (List.mem_of_getElem? hv)
        exact .str _ _
      -- the product of ten
      refine ⟨_, rfl, _, rfl, _, rfl, _, rfl, _, rfl, _, rfl, _, rfl, _, rfl, _, rfl, _, rfl, n, [x, y, z, u, u, z, y, x, x, z], rfl, hn, by show 10 ≤ 20; decide, ok (by simp), fun H13 s13 => ?_⟩
      refine ⟨_, rfl, _, rfl, _, rfl, _, rfl, _, rfl, _, rfl, _, rfl, _, rfl, _, rfl, _, rfl, _, rfl, (by show 10 ≤ sizeLine; decide), fun r nr => ⟨_, rfl, n, r, [x, y, z, u, u, z, y, x, x, z], rfl, SqL.of upd_same, hn, by show 10 ≤ 20; decide, ok (by simp), fun H14 s14 => ?_⟩⟩
      rw [all_mult _ hx]
      refine ⟨_, _, rfl, .str _ _, fun H15 s15 => ⟨true, rfl, iteF ?_⟩⟩
      -- commuting
      refine ⟨_, rfl, _, rfl, n, x, y, rfl, hn, hx, hy, fun H16 s16 => ⟨_, rfl, _, rfl, n, y, x, rfl, hn, hy, hx, fun H17 s17 => ⟨rfl, ?_⟩⟩⟩
      refine ⟨_, rfl, _, rfl, n, x, y, rfl, hn, hx, hy, fun H18 s18 => ⟨_, rfl, _, rfl, n, y, x, rfl, hn, hy, hx, fun H19 s19 => ⟨_, rfl, _, rfl, n, x, x, rfl, hn, hx, hx, fun H20 s20 => ⟨_, rfl, n, rfl, hn, (by show 4 ≤ sizeLine; decide), fun p1 np1 =>
        ⟨_, rfl, _, rfl, _, rfl, 49, n, (by decide +kernel), rfl, by omega, (by show 4 ≤ sizeLine; decide), fun p2 np2 => ?_⟩⟩⟩⟩⟩
      have hp1 := (same_upd (o := .lst [.bl (decide (tv (two x y) = tv (two y x))), .bl (decide (tv (two x y) = tv (two y x))), .bl true, .str (txt (List.replicate n 49))]) np2) _ _ (upd_same (H := H20) (a := p1) (o := .lst [.bl (cmB x y), .bl (cmB y x), .bl (cmB x x), tv (List.replicate n 49)]))
      refine ⟨_, _, rfl, .lst hp1 upd_same rfl (by show 4 ≤ 10000; decide) (fun k v v' hv hv' => ?_), fun H21 s21 => ⟨true, rfl, iteF ?_⟩⟩
      · match k, hv, hv' with
        | 0, hv, hv' => cases hv; cases hv'; rw [cm_dec x y]; exact .bl _ _
        | 1, hv, hv' => cases hv; cases hv'; rw [cm_swap x y]; exact .bl _ _
        | 2, hv, hv' => cases hv; cases hv'; rw [cm_self x]; exact .bl _ _
        | 3, hv, hv' => cases hv; cases hv'; exact .str _ _
      have sC := sB.trans (s11.trans (s12.trans (s13.trans ((same_upd nr).trans (s14.trans (s15.trans (s16.trans (s17.trans (s18.trans (s19.trans (s20.trans ((same_upd np1).trans ((same_upd np2).trans s21)))))))))))))
      exact ⟨_, _, _, _, _, _, _, _, _, _, _, _, _, _, _, rfl, B5.same sC⟩
    · rintro σ H1 ⟨y2, y3, y4, y5, y6, y7, y8, y9, y10, y11, y12, y13, y14, y15, y16, rfl, B1⟩
      refine ⟨Nat.zero_le _, fun o no => ⟨rfl, fun H2 p s2 np hp => ⟨(by show 2 ≤ sizeLine; decide), fun t nt => ?_⟩⟩⟩
      refine ⟨t, _, rfl, .inl (.inl upd_same), rfl, _, _, rfl, _, _, rfl, rfl, ?_⟩
      have ho3 : (upd H2 t (.tup [.ref o, .ref p])) o = some (.lst []) := (same_upd nt) _ _ (s2 _ _ upd_same)
      have hp3 : (upd H2 t (.tup [.ref o, .ref p])) p = some (.dK tabKV) := (same_upd nt) _ _ hp
      generalize upd H2 t (.tup [.ref o, .ref p]) = H3 at ho3 hp3 ⊢
      refine ⟨_, rfl, ?_⟩
      rw [txt_al]
      have s4 : (txt Al).cps.size = 4 := size_txt Al
      refine for_it walk_str (fun i σ H' => ∃ (o' : Addr) (y13 y14 y15 y16 : Option V), σ = [some (.ref a), some (.ref b), y2, y3, y4, y5, y6, y7, y8, y9, y10, some (.ref o'), some (.ref p), y13, y14, y15, y16] ∧ H' o' = some (.lst ((prs (Al.take i)).map fun q => tv [q.1, q.2])) ∧ H' p = some (.dK tabKV))
        ⟨o, _, _, _, _, rfl, ho3, hp3⟩ (fun _ _ _ _ _ => trivial) ?_ ?_
      · rintro i v σ H4 H5 hi ⟨o', y13, y14, y15, y16, rfl, ho, hp⟩ ⟨rfl, c, hc, rfl⟩
        rw [s4] at hi
        have ec := at_txt hc
        refine ⟨_, rfl, _, rfl, fun D nD => ?_⟩
        refine lc_it walk_str (fun j H' => Same H5 H' ∧ H' D = some (.lst (((Al.take j).map fun d => (c, d)).map fun q => tv [q.1, q.2]))) ⟨same_upd nD, upd_same⟩ (fun _ _ _ _ => trivial) ?_ ?_
        · rintro j v H6 H7 hj ⟨s6, hD⟩ ⟨rfl, d, hd, rfl⟩
          rw [s4] at hj
          have ed := at_txt hd
          refine ⟨rfl, ?_⟩
          refine ⟨_, rfl, _, rfl, _, _, rfl, rfl, by show 1 + 1 ≤ sizeLine; decide, _, hD, ?_, same_put s6 nD, ?_⟩
          · rw [List.length_map, List.length_map, List.length_take]
            exact small1000 (by omega)
          · have e1 : V.str ((⟨#[c]⟩ : Str) ++ ⟨#[d]⟩) = tv [c, d] := congrArg V.str (txt_app [c] [d])
            rw [upd_same, e1, List.take_succ, ed, List.map_append, List.map_append]
            rfl
        rintro H6 ⟨s6, hD⟩
        rw [s4] at hD
        have ea : Al.take 4 = Al := rfl
        rw [ea] at hD
        have pl := prs_few i (by omega)
        refine ⟨o', D, _, _, rfl, rfl, s6 _ _ ho, hD, ?_, fun r nr => ?_⟩
        · rw [List.length_map, List.length_map, List.length_map, pl]
          exact small1000 (by show 4 * i + 3 ≤ 1000; omega)
        · refine ⟨r, _, _, _, _, rfl, ?_, (same_upd nr) _ _ (s6 _ _ hp)⟩
          rw [upd_same, List.take_succ, ec, ← List.map_append]
          show _ = some (HO.lst ((prs (Al.take i ++ [c])).map fun q => tv [q.1, q.2]))
          rw [prs_snoc]
      rintro σ H4 ⟨o', y13, y14, y15, y16, rfl, ho, hp⟩
      rw [s4] at ho
      have ho' : H4 o' = some (.lst ((prs Al).map fun q => tv [q.1, q.2])) := ho
      -- the products of none and of empty strings
      have e0 : Sn 0 [] := ⟨false, [], rfl, rfl, fun c hc => by cases hc⟩
      have e1 : Sn 0 [45] := ⟨true, [], rfl, rfl, fun c hc => by cases hc⟩
      refine ⟨0, [], rfl, by decide, by decide, (fun v hv => by cases hv), fun H5 s5 => ⟨0, [[], []], by rw [txt_empty]; rfl, by decide, by decide, (fun v hv => ?_), fun H6 s6 => ⟨0, [[45], []], by rw [txt_empty, txt_minus]; rfl, by decide, by decide, (fun v hv => ?_), fun H7 s7 => ⟨(by show 3 ≤ sizeLine; decide), fun p1 np1 => ⟨(by show 3 ≤ sizeLine; decide), fun p2 np2 => ?_⟩⟩⟩⟩⟩
      · rcases List.mem_cons.mp hv with rfl | hv
        · exact e0
        · rw [List.mem_singleton.mp hv]; exact e0
      · rcases List.mem_cons.mp hv with rfl | hv
        · exact e1
        · rw [List.mem_singleton.mp hv]; exact e0
      have hp1 := (same_upd (o := .lst [.str (Str.ofString ""), .str (Str.ofString ""), .str (Str.ofString "-")]) np2) _ _ (upd_same (H := H7) (a := p1) (o := .lst [tv (multL []), tv (multL [[], []]), tv (multL [[45], []])]))
      refine ⟨_, _, rfl, .lst hp1 upd_same rfl (by show 3 ≤ 10000; decide) (fun k v v' hv hv' => ?_), fun H8 s8 => ⟨true, rfl, iteT ?_⟩⟩
      · match k, hv, hv' with
        | 0, hv, hv' => cases hv; cases hv'; rw [txt_empty]; exact .str _ _
        | 1, hv, hv' => cases hv; cases hv'; rw [txt_empty]; exact .str _ _
        | 2, hv, hv' => cases hv; cases hv'; rw [txt_minus]; exact .str _ _
      have sA := s5.trans (s6.trans (s7.trans ((same_upd np1).trans ((same_upd np2).trans s8))))
      have ho8 := sA _ _ ho'
      have hp8 := sA _ _ hp
      have n16 : (prs Al).length = 16 := rfl
      have at_q : ∀ {i : Nat} {v : V}, ((prs Al).map fun q => tv [q.1, q.2])[i]? = some v → ∃ q, (prs Al)[i]? = some q ∧ v = tv [q.1, q.2] ∧ q.1 ∈ Al ∧ q.2 ∈ Al := by
        intro i v hv
        rw [List.getElem?_map] at hv
        cases ex : (prs Al)[i]? with
        | none => rw [ex] at hv; cases hv
        | some q =>
          rw [ex] at hv
          exact ⟨q, rfl, (Option.some.inj hv).symm, prs_mem (List.mem_of_getElem? ex)⟩
      refine ⟨_, rfl, o', rfl, ⟨_, SqL.of ho8⟩, fun D nD => ?_⟩
      refine lc_list (K := K) (a := o') (te := fun σ H Q => tCons (tOp rIxS (tVar 16) (tC (V.int 0))) (tCons (tOp rIxS (tVar 16) (tC (V.int 1))) tNil) σ H fun given H1 => spMult given H1 Q E0) (xs := (prs Al).map fun q => tv [q.1, q.2]) (fun i H' => Same H8 H' ∧ H' D = some (.lst (((prs Al).take i).map fun q => tv (pP q.1 q.2)))) ⟨same_upd nD, upd_same⟩ (fun i H' _ hv => SqL.of (hv.1 _ _ ho8)) ?_ ?_
      · rintro i v H9 hv ⟨s9, hD⟩
        obtain ⟨q, eq, rfl, hq1, hq2⟩ := at_q hv
        have hi : i < (prs Al).length := (List.getElem?_eq_some_iff.mp eq).1
        have z2 : (txt [q.1, q.2]).length ≤ sizeLine := by rw [txt_len]; show 2 ≤ sizeLine; decide
        have one_ : ∀ {c : Nat}, c ∈ Al → Sn 1 [c] := fun {c} h => ⟨false, [c], rfl, rfl, fun d hd => by rw [List.mem_singleton.mp hd]; exact h⟩
        refine ⟨rfl, ?_⟩
        refine ⟨_, rfl, txt [q.1, q.2], _, q.1, rfl, rfl, z2, by rw [txt_cps]; rfl, _, rfl, txt [q.1, q.2], _, q.2, rfl, rfl, z2, by rw [txt_cps]; rfl, 1, [[q.1], [q.2]], rfl, by decide, by show 2 ≤ 20; decide, (fun v hv => ?_), fun H10 s10 => ?_⟩
        · rcases List.mem_cons.mp hv with rfl | hv
          · exact one_ hq1
          · rw [List.mem_singleton.mp hv]; exact one_ hq2
        refine ⟨_, s10 _ _ hD, ?_, same_put (s9.trans s10) nD, ?_⟩
        · rw [List.length_map, List.length_take]
          exact small1000 (by omega)
        · rw [upd_same, List.take_succ, eq, List.map_append]
          show _ = some (HO.lst (_ ++ [tv (pP q.1 q.2)]))
          rw [← p_pair q.1 hq1 q.2 hq2]
          rfl
      rintro H9 ⟨s9, hD⟩
      rw [List.length_map, List.take_length] at hD
      have ho9 := s9 _ _ ho8
      have hp9 := s9 _ _ hp8
      refine ⟨_, rfl, o', rfl, ⟨_, SqL.of ho9⟩, fun D2 nD2 => ?_⟩
      refine lc_list (K := K) (a := o') (xs := (prs Al).map fun q => tv [q.1, q.2]) (fun i H' => Same H9 H' ∧ H' D2 = some (.lst (((prs Al).take i).map fun q => tv (pP q.1 q.2)))) ⟨same_upd nD2, upd_same⟩ (fun i H' _ hv => SqL.of (hv.1 _ _ ho9)) ?_ ?_
      · rintro i v H10 hv ⟨s10, hD2⟩
        obtain ⟨q, eq, rfl, hq1, hq2⟩ := at_q hv
        have hi : i < (prs Al).length := (List.getElem?_eq_some_iff.mp eq).1
        have e := DGet.k (k := Sum.inr (txt [q.1, q.2])) (s10 _ _ hp9)
        rw [tab_at q.1 hq1 q.2 hq2] at e
        refine ⟨rfl, ?_⟩
        refine ⟨_, rfl, _, rfl, p, tv (pP q.1 q.2), rfl, e, _, hD2, ?_, same_put s10 nD2, ?_⟩
        · rw [List.length_map, List.length_take]
          exact small1000 (by omega)
        · rw [upd_same, List.take_succ, eq, List.map_append]
          rfl
      rintro H10 ⟨s10, hD2⟩
      rw [List.length_map, List.take_length] at hD2
      have m1 : ((prs Al).map fun q => tv (pP q.1 q.2)) = ((prs Al).map fun q => txt (pP q.1 q.2)).map V.str := by rw [List.map_map]; rfl
      have hDa := s10 _ _ hD
      rw [m1] at hDa hD2
      have shp : SeqAt.shaped (.list (((prs Al).map fun q => txt (pP q.1 q.2)).map PyData.str)) = true := by decide +kernel
      have eqd : PyData.eqv (.list (((prs Al).map fun q => txt (pP q.1 q.2)).map PyData.str)) (.list (((prs Al).map fun q => txt (pP q.1 q.2)).map PyData.str)) = true := by decide +kernel
      refine ⟨_, _, .lst (SqL.of hDa) (dp_strs _), .lst (SqL.of hD2) (dp_strs _), shp, shp, ?_⟩
      rw [eqd]
      exact qq _
end


end T21

namespace T21
open PySem PySem.Spec PyProof.Rows L2 Tm
theorem all_mk {l : PySem.W.OpenLaw} {w : World} {K : PySem.W.Frag} {h : Heap} {mg : Str → Option Value} {fa f1 f2 f3 f4 f5 f6 f7 f8 f9 f10 f11 f12 f13 f14 f15 f16 f17 f18 f19 f20 : Addr} (X : K.In h) (G : h.Ns mainGlobals mg) (hfa : mg "law" = some (.ref fa))
    {pd : Addr} {es : Array DictEntry} {dn : Nat} {ta t0 t1 t2 t3 t4 t5 t6 t7 t8 t9 t10 t11 t12 t13 t14 t15 : Tok} {od1 od2 od3 od4 od5 od6 od7 od8 od9 od10 od11 od12 od13 od14 od15 od16 od17 od18 od19 od20 an1 an2 an3 an4 an5 an6 an7 an8 an9 an10 an11 an12 an13 an14 an15 an16 an17 an18 an19 an20 : Option Addr} {sl1 sl2 sl3 sl4 sl5 sl6 sl7 sl8 sl9 sl10 sl11 sl12 sl13 sl14 sl15 sl16 sl17 sl18 sl19 sl20 : Array (Option Value)} {oc1 oc2 oc3 oc4 oc5 oc6 oc7 oc8 oc9 oc10 oc11 oc12 oc13 oc14 oc15 oc16 oc17 oc18 oc19 oc20 kV1 kV2 kV3 kV4 kV5 kV6 kV7 kV8 kV9 kV10 kV11 kV12 kV13 kV14 kV15 kV16 kV17 kV18 kV19 kV20 dc1 dc2 dc3 dc4 dc5 dc6 dc7 dc8 dc9 dc10 dc11 dc12 dc13 dc14 dc15 dc16 dc17 dc18 dc19 dc20 pm1 pm2 pm3 pm4 pm5 pm6 pm7 pm8 pm9 pm10 pm11 pm12 pm13 pm14 pm15 pm16 pm17 pm18 pm19 pm20 cd1 cd2 cd3 cd4 cd5 cd6 cd7 cd8 cd9 cd10 cd11 cd12 cd13 cd14 cd15 cd16 cd17 cd18 cd19 cd20 ct1 ct2 ct3 ct4 ct5 ct6 ct7 ct8 ct9 ct10 ct11 ct12 ct13 ct14 ct15 ct16 ct17 ct18 ct19 ct20 : Value}
    (a1 : PySem.W.nsIn K mainGlobals "_law_bag" = some (some (.ref f1))) (l1 : K.lookup f1 = some ⟨oc1, od1, .func (PySem.W.fnOf "_law_bag" "_law_bag" (defArgs sBag) (defBody sBag) (defScope sBag) .none kV1 dc1 pm1 an1 cd1 ct1), sl1⟩) (c1 : PySem.W.codeIn K cd1 "_law_bag" = true) (k1 : PySem.W.keepIn K (.ref f1) = true)
    (a2 : PySem.W.nsIn K mainGlobals "_law_pull" = some (some (.ref f2))) (l2 : K.lookup f2 = some ⟨oc2, od2, .func (PySem.W.fnOf "_law_pull" "_law_pull" (defArgs sPull) (defBody sPull) (defScope sPull) .none kV2 dc2 pm2 an2 cd2 ct2), sl2⟩) (c2 : PySem.W.codeIn K cd2 "_law_pull" = true) (k2 : PySem.W.keepIn K (.ref f2) = true)
    (a3 : PySem.W.nsIn K mainGlobals "_law_of" = some (some (.ref f3))) (l3 : K.lookup f3 = some ⟨oc3, od3, .func (PySem.W.fnOf "_law_of" "_law_of" (defArgs sOf) (defBody sOf) (defScope sOf) .none kV3 dc3 pm3 an3 cd3 ct3), sl3⟩) (c3 : PySem.W.codeIn K cd3 "_law_of" = true) (k3 : PySem.W.keepIn K (.ref f3) = true)
    (a4 : PySem.W.nsIn K mainGlobals "_law_signed" = some (some (.ref f4))) (l4 : K.lookup f4 = some ⟨oc4, od4, .func (PySem.W.fnOf "_law_signed" "_law_signed" (defArgs sLSigned) (defBody sLSigned) (defScope sLSigned) .none kV4 dc4 pm4 an4 cd4 ct4), sl4⟩) (c4 : PySem.W.codeIn K cd4 "_law_signed" = true) (k4 : PySem.W.keepIn K (.ref f4) = true)
    (a5 : PySem.W.nsIn K mainGlobals "_law_body" = some (some (.ref f5))) (l5 : K.lookup f5 = some ⟨oc5, od5, .func (PySem.W.fnOf "_law_body" "_law_body" (defArgs sLBody) (defBody sLBody) (defScope sLBody) .none kV5 dc5 pm5 an5 cd5 ct5), sl5⟩) (c5 : PySem.W.codeIn K cd5 "_law_body" = true) (k5 : PySem.W.keepIn K (.ref f5) = true)
    (a6 : PySem.W.nsIn K mainGlobals "_law_string" = some (some (.ref f6))) (l6 : K.lookup f6 = some ⟨oc6, od6, .func (PySem.W.fnOf "_law_string" "_law_string" (defArgs sLString) (defBody sLString) (defScope sLString) .none kV6 dc6 pm6 an6 cd6 ct6), sl6⟩) (c6 : PySem.W.codeIn K cd6 "_law_string" = true) (k6 : PySem.W.keepIn K (.ref f6) = true)
    (a7 : PySem.W.nsIn K mainGlobals "letters_of" = some (some (.ref f7))) (l7 : K.lookup f7 = some ⟨oc7, od7, .func (PySem.W.fnOf "letters_of" "letters_of" (defArgs sLettersOf) (defBody sLettersOf) (defScope sLettersOf) .none kV7 dc7 pm7 an7 cd7 ct7), sl7⟩) (c7 : PySem.W.codeIn K cd7 "letters_of" = true) (k7 : PySem.W.keepIn K (.ref f7) = true)
    (a8 : PySem.W.nsIn K mainGlobals "sign_of" = some (some (.ref f8))) (l8 : K.lookup f8 = some ⟨oc8, od8, .func (PySem.W.fnOf "sign_of" "sign_of" (defArgs sSignOf) (defBody sSignOf) (defScope sSignOf) .none kV8 dc8 pm8 an8 cd8 ct8), sl8⟩) (c8 : PySem.W.codeIn K cd8 "sign_of" = true) (k8 : PySem.W.keepIn K (.ref f8) = true)
    (a9 : PySem.W.nsIn K mainGlobals "signed" = some (some (.ref f9))) (l9 : K.lookup f9 = some ⟨oc9, od9, .func (PySem.W.fnOf "signed" "signed" (defArgs sSigned) (defBody sSigned) (defScope sSigned) .none kV9 dc9 pm9 an9 cd9 ct9), sl9⟩) (c9 : PySem.W.codeIn K cd9 "signed" = true) (k9 : PySem.W.keepIn K (.ref f9) = true)
    (a10 : PySem.W.nsIn K mainGlobals "is_string" = some (some (.ref f10))) (l10 : K.lookup f10 = some ⟨oc10, od10, .func (PySem.W.fnOf "is_string" "is_string" (defArgs sIsStr) (defBody sIsStr) (defScope sIsStr) .none kV10 dc10 pm10 an10 cd10 ct10), sl10⟩) (c10 : PySem.W.codeIn K cd10 "is_string" = true) (k10 : PySem.W.keepIn K (.ref f10) = true)
    (a11 : PySem.W.nsIn K mainGlobals "check_string" = some (some (.ref f11))) (l11 : K.lookup f11 = some ⟨oc11, od11, .func (PySem.W.fnOf "check_string" "check_string" (defArgs sChkS) (defBody sChkS) (defScope sChkS) .none kV11 dc11 pm11 an11 cd11 ct11), sl11⟩) (c11 : PySem.W.codeIn K cd11 "check_string" = true) (k11 : PySem.W.keepIn K (.ref f11) = true)
    (a12 : PySem.W.nsIn K mainGlobals "product_of_two" = some (some (.ref f12))) (l12 : K.lookup f12 = some ⟨oc12, od12, .func (PySem.W.fnOf "product_of_two" "product_of_two" (defArgs sTwo) (defBody sTwo) (defScope sTwo) .none kV12 dc12 pm12 an12 cd12 ct12), sl12⟩) (c12 : PySem.W.codeIn K cd12 "product_of_two" = true) (k12 : PySem.W.keepIn K (.ref f12) = true)
    (a13 : PySem.W.nsIn K mainGlobals "multiply" = some (some (.ref f13))) (l13 : K.lookup f13 = some ⟨oc13, od13, .func (PySem.W.fnOf "multiply" "multiply" (defArgs sMult) (defBody sMult) (defScope sMult) .none kV13 dc13 pm13 an13 cd13 ct13), sl13⟩) (c13 : PySem.W.codeIn K cd13 "multiply" = true) (k13 : PySem.W.keepIn K (.ref f13) = true)
    (a14 : PySem.W.nsIn K mainGlobals "commute" = some (some (.ref f14))) (l14 : K.lookup f14 = some ⟨oc14, od14, .func (PySem.W.fnOf "commute" "commute" (defArgs sComm) (defBody sComm) (defScope sComm) .none kV14 dc14 pm14 an14 cd14 ct14), sl14⟩) (c14 : PySem.W.codeIn K cd14 "commute" = true) (k14 : PySem.W.keepIn K (.ref f14) = true)
    (a15 : PySem.W.nsIn K mainGlobals "identity" = some (some (.ref f15))) (l15 : K.lookup f15 = some ⟨oc15, od15, .func (PySem.W.fnOf "identity" "identity" (defArgs sIden) (defBody sIden) (defScope sIden) .none kV15 dc15 pm15 an15 cd15 ct15), sl15⟩) (c15 : PySem.W.codeIn K cd15 "identity" = true) (k15 : PySem.W.keepIn K (.ref f15) = true)
    (a16 : PySem.W.nsIn K mainGlobals "_law_table_of_products" = some (some (.ref f16))) (l16 : K.lookup f16 = some ⟨oc16, od16, .func (PySem.W.fnOf "_law_table_of_products" "_law_table_of_products" (defArgs sLTab) (defBody sLTab) (defScope sLTab) .none kV16 dc16 pm16 an16 cd16 ct16), sl16⟩) (c16 : PySem.W.codeIn K cd16 "_law_table_of_products" = true) (k16 : PySem.W.keepIn K (.ref f16) = true)
    (a17 : PySem.W.nsIn K mainGlobals "_law_times" = some (some (.ref f17))) (l17 : K.lookup f17 = some ⟨oc17, od17, .func (PySem.W.fnOf "_law_times" "_law_times" (defArgs sLTimes) (defBody sLTimes) (defScope sLTimes) .none kV17 dc17 pm17 an17 cd17 ct17), sl17⟩) (c17 : PySem.W.codeIn K cd17 "_law_times" = true) (k17 : PySem.W.keepIn K (.ref f17) = true)
    (a18 : PySem.W.nsIn K mainGlobals "_law_times_all" = some (some (.ref f18))) (l18 : K.lookup f18 = some ⟨oc18, od18, .func (PySem.W.fnOf "_law_times_all" "_law_times_all" (defArgs sLTAll) (defBody sLTAll) (defScope sLTAll) .none kV18 dc18 pm18 an18 cd18 ct18), sl18⟩) (c18 : PySem.W.codeIn K cd18 "_law_times_all" = true) (k18 : PySem.W.keepIn K (.ref f18) = true)
    (a19 : PySem.W.nsIn K mainGlobals "_law_same" = some (some (.ref f19))) (l19 : K.lookup f19 = some ⟨oc19, od19, .func (PySem.W.fnOf "_law_same" "_law_same" (defArgs sSame) (defBody sSame) (defScope sSame) .none kV19 dc19 pm19 an19 cd19 ct19), sl19⟩) (c19 : PySem.W.codeIn K cd19 "_law_same" = true) (k19 : PySem.W.keepIn K (.ref f19) = true)
    (a20 : PySem.W.nsIn K mainGlobals "law" = some (some (.ref f20))) (l20 : K.lookup f20 = some ⟨oc20, od20, .func (PySem.W.fnOf "law" "law" (defArgs sLaw) (defBody sLaw) (defScope sLaw) .none kV20 dc20 pm20 an20 cd20 ct20), sl20⟩) (c20 : PySem.W.codeIn K cd20 "law" = true) (k20 : PySem.W.keepIn K (.ref f20) = true)
    (z1 : PySem.W.nsIn K mainGlobals "isinstance" = some none)    (z2 : PySem.W.nsIn K mainGlobals "dict" = some none)    (z3 : PySem.W.nsIn K mainGlobals "list" = some none)    (z4 : PySem.W.nsIn K mainGlobals "tuple" = some none)
    (z5 : PySem.W.nsIn K mainGlobals "bool" = some none)    (z6 : PySem.W.nsIn K mainGlobals "int" = some none)    (z7 : PySem.W.nsIn K mainGlobals "str" = some none)    (z8 : PySem.W.nsIn K mainGlobals "len" = some none)
    (z9 : PySem.W.nsIn K mainGlobals "all" = some none)    (z10 : PySem.W.nsIn K mainGlobals "zip" = some none)    (z11 : PySem.W.nsIn K mainGlobals "range" = some none)    (z12 : PySem.W.nsIn K mainGlobals "sum" = some none)
    (sl : PySem.W.nsIn K mainGlobals "STRING_LETTERS" = some (some (.str (Str.ofString "1XZW") ta)))
    (d1 : PySem.W.nsIn K mainGlobals "PRODUCTS" = some (some (.ref pd)))
    (d2 : K.lookup pd = some ⟨.type "dict", none, .dict es dn, #[]⟩)
    (d3 : PySem.W.KeysLit w.params es.toList)
    (q0 : PySem.W.nsIn K pd (Str.ofString "11") = some (some (.str (Str.ofString "1") t0)))
    (q1 : PySem.W.nsIn K pd (Str.ofString "1X") = some (some (.str (Str.ofString "X") t1)))
    (q2 : PySem.W.nsIn K pd (Str.ofString "1Z") = some (some (.str (Str.ofString "Z") t2)))
    (q3 : PySem.W.nsIn K pd (Str.ofString "1W") = some (some (.str (Str.ofString "W") t3)))
    (q4 : PySem.W.nsIn K pd (Str.ofString "X1") = some (some (.str (Str.ofString "X") t4)))
    (q5 : PySem.W.nsIn K pd (Str.ofString "XX") = some (some (.str (Str.ofString "1") t5)))
    (q6 : PySem.W.nsIn K pd (Str.ofString "XZ") = some (some (.str (Str.ofString "W") t6)))
    (q7 : PySem.W.nsIn K pd (Str.ofString "XW") = some (some (.str (Str.ofString "Z") t7)))
    (q8 : PySem.W.nsIn K pd (Str.ofString "Z1") = some (some (.str (Str.ofString "Z") t8)))
    (q9 : PySem.W.nsIn K pd (Str.ofString "ZX") = some (some (.str (Str.ofString "-W") t9)))
    (q10 : PySem.W.nsIn K pd (Str.ofString "ZZ") = some (some (.str (Str.ofString "1") t10)))
    (q11 : PySem.W.nsIn K pd (Str.ofString "ZW") = some (some (.str (Str.ofString "-X") t11)))
    (q12 : PySem.W.nsIn K pd (Str.ofString "W1") = some (some (.str (Str.ofString "W") t12)))
    (q13 : PySem.W.nsIn K pd (Str.ofString "WX") = some (some (.str (Str.ofString "-Z") t13)))
    (q14 : PySem.W.nsIn K pd (Str.ofString "WZ") = some (some (.str (Str.ofString "X") t14)))
    (q15 : PySem.W.nsIn K pd (Str.ofString "WW") = some (some (.str (Str.ofString "-1") t15)))
 :
    ∃ fd : FuncData, (∀ (s : Shared) (v : Value), BindsTo s fd ⟨[v], []⟩ [("_law_script", v)]) ∧ ∀ base : Heap, K.In base → base.Ns mainGlobals mg → FnOk l.prog w K mg base CX0 6 fa fd ["_law_script"] (spLaw K) := by
  have e := hfa.symm.trans (PySem.W.mg_of X G a20)
  cases e
  have F1 := fun_mk (st := sBag) l1 c1 k1
  have b1 := F1.binds (ps := ["_law_script"]) fun _ _ _ _ _ _ us hl => match us, hl with | [_], _ => rfl
  have g1 := PySem.W.mg_of X G a1
  have F2 := fun_mk (st := sPull) l2 c2 k2
  have b2 := F2.binds (ps := ["_law_bag_here", "_law_many"]) fun _ _ _ _ _ _ us hl => match us, hl with | [_, _], _ => rfl
  have g2 := PySem.W.mg_of X G a2
  have F3 := fun_mk (st := sOf) l3 c3 k3
  have b3 := F3.binds (ps := ["_law_bag_here", "_law_things"]) fun _ _ _ _ _ _ us hl => match us, hl with | [_, _], _ => rfl
  have g3 := PySem.W.mg_of X G a3
  have F4 := fun_mk (st := sLSigned) l4 c4 k4
  have b4 := F4.binds (ps := ["_law_mturned", "_law_body_here"]) fun _ _ _ _ _ _ us hl => match us, hl with | [_, _], _ => rfl
  have g4 := PySem.W.mg_of X G a4
  have F5 := fun_mk (st := sLBody) l5 c5 k5
  have b5 := F5.binds (ps := ["_law_text"]) fun _ _ _ _ _ _ us hl => match us, hl with | [_], _ => rfl
  have g5 := PySem.W.mg_of X G a5
  have F6 := fun_mk (st := sLString) l6 c6 k6
  have b6 := F6.binds (ps := ["_law_bag_here", "_law_size"]) fun _ _ _ _ _ _ us hl => match us, hl with | [_, _], _ => rfl
  have g6 := PySem.W.mg_of X G a6
  have F7 := fun_mk (st := sLettersOf) l7 c7 k7
  have b7 := F7.binds (ps := ["text"]) fun _ _ _ _ _ _ us hl => match us, hl with | [_], _ => rfl
  have g7 := PySem.W.mg_of X G a7
  have F8 := fun_mk (st := sSignOf) l8 c8 k8
  have b8 := F8.binds (ps := ["text"]) fun _ _ _ _ _ _ us hl => match us, hl with | [_], _ => rfl
  have g8 := PySem.W.mg_of X G a8
  have F9 := fun_mk (st := sSigned) l9 c9 k9
  have b9 := F9.binds (ps := ["turns", "letters"]) fun _ _ _ _ _ _ us hl => match us, hl with | [_, _], _ => rfl
  have g9 := PySem.W.mg_of X G a9
  have F10 := fun_mk (st := sIsStr) l10 c10 k10
  have b10 := F10.binds (ps := ["text"]) fun _ _ _ _ _ _ us hl => match us, hl with | [_], _ => rfl
  have g10 := PySem.W.mg_of X G a10
  have F11 := fun_mk (st := sChkS) l11 c11 k11
  have b11 := F11.binds (ps := ["text"]) fun _ _ _ _ _ _ us hl => match us, hl with | [_], _ => rfl
  have g11 := PySem.W.mg_of X G a11
  have F12 := fun_mk (st := sTwo) l12 c12 k12
  have b12 := F12.binds (ps := ["one", "other"]) fun _ _ _ _ _ _ us hl => match us, hl with | [_, _], _ => rfl
  have g12 := PySem.W.mg_of X G a12
  have F13 := fun_mk (st := sMult) l13 c13 k13
  have g13 := PySem.W.mg_of X G a13
  have F14 := fun_mk (st := sComm) l14 c14 k14
  have b14 := F14.binds (ps := ["one", "other"]) fun _ _ _ _ _ _ us hl => match us, hl with | [_, _], _ => rfl
  have g14 := PySem.W.mg_of X G a14
  have F15 := fun_mk (st := sIden) l15 c15 k15
  have b15 := F15.binds (ps := ["size"]) fun _ _ _ _ _ _ us hl => match us, hl with | [_], _ => rfl
  have g15 := PySem.W.mg_of X G a15
  have F16 := fun_mk (st := sLTab) l16 c16 k16
  have b16 := F16.binds (ps := []) fun _ _ _ _ _ _ us hl => match us, hl with | [], _ => rfl
  have g16 := PySem.W.mg_of X G a16
  have F17 := fun_mk (st := sLTimes) l17 c17 k17
  have b17 := F17.binds (ps := ["_law_first", "_law_last"]) fun _ _ _ _ _ _ us hl => match us, hl with | [_, _], _ => rfl
  have g17 := PySem.W.mg_of X G a17
  have F18 := fun_mk (st := sLTAll) l18 c18 k18
  have b18 := F18.binds (ps := ["_law_strings_in", "_law_size"]) fun _ _ _ _ _ _ us hl => match us, hl with | [_, _], _ => rfl
  have g18 := PySem.W.mg_of X G a18
  have F19 := fun_mk (st := sSame) l19 c19 k19
  have b19 := F19.binds (ps := ["_law_found", "_law_due"]) fun _ _ _ _ _ _ us hl => match us, hl with | [_, _], _ => rfl
  have g19 := PySem.W.mg_of X G a19
  have F20 := fun_mk (st := sLaw) l20 c20 k20
  have m_isinstance := PySem.W.mg_none_of X G z1
  have m_dict := PySem.W.mg_none_of X G z2
  have m_list := PySem.W.mg_none_of X G z3
  have m_tuple := PySem.W.mg_none_of X G z4
  have m_bool := PySem.W.mg_none_of X G z5
  have m_int := PySem.W.mg_none_of X G z6
  have m_str := PySem.W.mg_none_of X G z7
  have m_len := PySem.W.mg_none_of X G z8
  have m_all := PySem.W.mg_none_of X G z9
  have m_zip := PySem.W.mg_none_of X G z10
  have m_range := PySem.W.mg_none_of X G z11
  have m_sum := PySem.W.mg_none_of X G z12
  exact ⟨PySem.W.fnOf "law" "law" (defArgs sLaw) (defBody sLaw) (defScope sLaw) .none kV20 dc20 pm20 an20 cd20 ct20, fun s v => .of_eq rfl, fun base _ _ => ok_law F20 F1 b1 g1 F2 b2 g2 F3 b3 g3 F4 b4 g4 F5 b5 g5 F6 b6 g6 F7 b7 g7 F8 b8 g8 F9 b9 g9 F10 b10 g10 F11 b11 g11 F12 b12 g12 F13 g13 F14 b14 g14 F15 b15 g15 F16 b16 g16 F17 b17 g17 F18 b18 g18 F19 b19 g19 (PySem.W.mg_of X G sl) (PySem.W.mg_of X G d1) (kd_all d2 d3 (fun p hp => by simp only [ptab, List.mem_cons, List.not_mem_nil, or_false] at hp; rcases hp with rfl | rfl | rfl | rfl | rfl | rfl | rfl | rfl | rfl | rfl | rfl | rfl | rfl | rfl | rfl | rfl;                all_goals first | exact ⟨_, q0⟩ | exact ⟨_, q1⟩ | exact ⟨_, q2⟩ | exact ⟨_, q3⟩ | exact ⟨_, q4⟩ | exact ⟨_, q5⟩ | exact ⟨_, q6⟩ | exact ⟨_, q7⟩ | exact ⟨_, q8⟩ | exact ⟨_, q9⟩ | exact ⟨_, q10⟩ | exact ⟨_, q11⟩ | exact ⟨_, q12⟩ | exact ⟨_, q13⟩ | exact ⟨_, q14⟩ | exact ⟨_, q15⟩)) ⟨m_isinstance, m_dict, m_list, m_tuple, m_bool, m_int, m_str, m_len, m_all, m_zip⟩ m_sum m_range⟩


end T21

open PySem PySem.W PyProof.Rows in
set_option maxRecDepth 100000 in
set_option maxHeartbeats 0 in
theorem PySem.Challenge.cw_threadmark_k21_products_of_strings_holds : PySem.Challenge.rw_threadmark_k21_products_of_strings.Holds := by
  w_on; o_law; k_head; (case hw => w_witness2)
  k_fill
  refine L2.walk_of (l := PySem.Challenge.rw_threadmark_k21_products_of_strings) (n := 63) (k := 6) (x := "_law_script") (CX := fun _ => L2.CX0) (sp := fun w => Tm.spLaw _) rfl (by decide) rfl ⟨rfl, by decide, by decide⟩ (fun w h Y => PySem.W.kIn_of Y) ?F (fun _ _ a ns hl _ hS => ⟨a, ns, rfl, hS, hl, fun _ => rfl⟩) (fun _ _ _ _ _ h => h)
  case F =>
    intro w mg fa h KX G hmg
    refine' T21.all_mk KX G hmg ?a1 ?l1 ?c1 ?k1 ?a2 ?l2 ?c2 ?k2 ?a3 ?l3 ?c3 ?k3 ?a4 ?l4 ?c4 ?k4 ?a5 ?l5 ?c5 ?k5 ?a6 ?l6 ?c6 ?k6 ?a7 ?l7 ?c7 ?k7 ?a8 ?l8 ?c8 ?k8 ?a9 ?l9 ?c9 ?k9 ?a10 ?l10 ?c10 ?k10 ?a11 ?l11 ?c11 ?k11 ?a12 ?l12 ?c12 ?k12 ?a13 ?l13 ?c13 ?k13 ?a14 ?l14 ?c14 ?k14 ?a15 ?l15 ?c15 ?k15 ?a16 ?l16 ?c16 ?k16 ?a17 ?l17 ?c17 ?k17 ?a18 ?l18 ?c18 ?k18 ?a19 ?l19 ?c19 ?k19 ?a20 ?l20 ?c20 ?k20 ?z1 ?z2 ?z3 ?z4 ?z5 ?z6 ?z7 ?z8 ?z9 ?z10 ?z11 ?z12 ?sl ?d1 ?d2 ?d3 ?q0 ?q1 ?q2 ?q3 ?q4 ?q5 ?q6 ?q7 ?q8 ?q9 ?q10 ?q11 ?q12 ?q13 ?q14 ?q15
    (case a1 => k_is)
    (case l1 => k_is)
    (case c1 => k_is)
    (case k1 => k_is)
    (case a2 => k_is)
    (case l2 => k_is)
    (case c2 => k_is)
    (case k2 => k_is)
    (case a3 => k_is)
    (case l3 => k_is)
    (case c3 => k_is)
    (case k3 => k_is)
    (case a4 => k_is)
    (case l4 => k_is)
    (case c4 => k_is)
    (case k4 => k_is)
    (case a5 => k_is)
    (case l5 => k_is)
    (case c5 => k_is)
    (case k5 => k_is)
    (case a6 => k_is)
    (case l6 => k_is)
    (case c6 => k_is)
    (case k6 => k_is)
    (case a7 => k_is)
    (case l7 => k_is)
    (case c7 => k_is)
    (case k7 => k_is)
    (case a8 => k_is)
    (case l8 => k_is)
    (case c8 => k_is)
    (case k8 => k_is)
    (case a9 => k_is)
    (case l9 => k_is)
    (case c9 => k_is)
    (case k9 => k_is)
    (case a10 => k_is)
    (case l10 => k_is)
    (case c10 => k_is)
    (case k10 => k_is)
    (case a11 => k_is)
    (case l11 => k_is)
    (case c11 => k_is)
    (case k11 => k_is)
    (case a12 => k_is)
    (case l12 => k_is)
    (case c12 => k_is)
    (case k12 => k_is)
    (case a13 => k_is)
    (case l13 => k_is)
    (case c13 => k_is)
    (case k13 => k_is)
    (case a14 => k_is)
    (case l14 => k_is)
    (case c14 => k_is)
    (case k14 => k_is)
    (case a15 => k_is)
    (case l15 => k_is)
    (case c15 => k_is)
    (case k15 => k_is)
    (case a16 => k_is)
    (case l16 => k_is)
    (case c16 => k_is)
    (case k16 => k_is)
    (case a17 => k_is)
    (case l17 => k_is)
    (case c17 => k_is)
    (case k17 => k_is)
    (case a18 => k_is)
    (case l18 => k_is)
    (case c18 => k_is)
    (case k18 => k_is)
    (case a19 => k_is)
    (case l19 => k_is)
    (case c19 => k_is)
    (case k19 => k_is)
    (case a20 => k_is)
    (case l20 => k_is)
    (case c20 => k_is)
    (case k20 => k_is)
    (case z1 => k_is)
    (case z2 => k_is)
    (case z3 => k_is)
    (case z4 => k_is)
    (case z5 => k_is)
    (case z6 => k_is)
    (case z7 => k_is)
    (case z8 => k_is)
    (case z9 => k_is)
    (case z10 => k_is)
    (case z11 => k_is)
    (case z12 => k_is)
    (case sl => k_is)
    (case d1 => k_is)
    (case d2 => k_is)
    (case d3 => exact ⟨⟨_, _, rfl, rfl⟩, ⟨_, _, rfl, rfl⟩, ⟨_, _, rfl, rfl⟩, ⟨_, _, rfl, rfl⟩, ⟨_, _, rfl, rfl⟩, ⟨_, _, rfl, rfl⟩, ⟨_, _, rfl, rfl⟩, ⟨_, _, rfl, rfl⟩, ⟨_, _, rfl, rfl⟩, ⟨_, _, rfl, rfl⟩, ⟨_, _, rfl, rfl⟩, ⟨_, _, rfl, rfl⟩, ⟨_, _, rfl, rfl⟩, ⟨_, _, rfl, rfl⟩, ⟨_, _, rfl, rfl⟩, ⟨_, _, rfl, rfl⟩, trivial⟩)
    (case q0 => k_is)
    (case q1 => k_is)
    (case q2 => k_is)
    (case q3 => k_is)
    (case q4 => k_is)
    (case q5 => k_is)
    (case q6 => k_is)
    (case q7 => k_is)
    (case q8 => k_is)
    (case q9 => k_is)
    (case q10 => k_is)
    (case q11 => k_is)
    (case q12 => k_is)
    (case q13 => k_is)
    (case q14 => k_is)
    (case q15 => k_is)

