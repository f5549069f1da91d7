import PyProof.Rows.All
import Wide.All
import OpenK.AllK
import Wide.FinOn
import HandS.ForMost
import HandS.ForExc
import HandS.Evl
import HandS.Conv
import HandS.WideBits
import HandS.Wide
import HandS.Flow
import HandS.Property
import HandS.Records
import HandS.SortInts
import HandS.Strs
import HandS.IsInst
import HandS.TupAny
import HandS.Zip
import HandS.SetFor
import KE.GoesEnum
import HandS.Iter
import HandS.WordsExc
import HandS.Codes
import HandS.Text
import HandS.Defaults
import HandS.BoundList
import HandS.Style
import HandS.Gcd
import HandS.SortKw
import HandS.Deep
import HandS.ClsMeth
import HandS.FStr
import HandS.Keys
import PySem.Challenge.RW_hoursums_k05_hours_added_and_joined
set_option Elab.async false
set_option maxRecDepth 100000
set_option linter.all false
section -- Sx
set_option maxRecDepth 100000
set_option maxHeartbeats 4000000
namespace Sx
open PySem PySem.Spec L2
open PyProof.Rows hiding St

/-! ### running a piece of syntax from where one stands -/
def RE (X : Cx) (e : Expr) : TE := fun σ H Q => ∀ (pins : List (Addr × Obj)) (s : Shared), Inv X pins σ H s → wpAny (model X.prog X.w) X.A (eval e X.env) (EP X pins σ Q) X.xe s
def RT (X : Cx) (e : Expr) : TT := fun σ H Q => ∀ (pins : List (Addr × Obj)) (s : Shared), Inv X pins σ H s → wpAny (model X.prog X.w) X.A (isTrue e X.env (eval e X.env)) (TP X pins σ Q) X.xe s
def RW (X : Cx) (e : Expr) : TT := fun σ H Q => ∀ (whole : Sem Value) (pins : List (Addr × Obj)) (s : Shared), Inv X pins σ H s → wpAny (model X.prog X.w) X.A (isTrue e X.env whole) (TP X pins σ Q) X.xe s
def RA (X : Cx) (es : List Expr) : TA := fun σ H Q => ∀ (pos : Pos) (pins : List (Addr × Obj)) (s : Shared), Inv X pins σ H s → wpAny (model X.prog X.w) X.A (spliced (backTo pos (starEach es X.env))) (AP X pins σ Q) X.xe s
def RK (X : Cx) (kws : List Keyword) : TA := fun σ H Q => ∀ (pos : Pos) (pins : List (Addr × Obj)) (s : Shared), Inv X pins σ H s → wpAny (model X.prog X.w) X.A (evalAll ((backToKw pos (keywordEach kws X.env)).map (·.2))) (AP X pins σ Q) X.xe s
def RS (X : Cx) (st : Stmt) : TS := fun D σ H => ∀ (pins : List (Addr × Obj)) (s : Shared), Inv X pins σ H s → wpAny (model X.prog X.w) X.A (exec st X.env) (SP X pins D) X.xe s
def RSs (X : Cx) (st : List Stmt) : TS := fun D σ H => ∀ (pins : List (Addr × Obj)) (s : Shared), Inv X pins σ H s → wpAny (model X.prog X.w) X.A (execs st X.env) (SP X pins D) X.xe s
def RG (X : Cx) (tg : Expr) : TG := fun v σ H Q => ∀ (pins : List (Addr × Obj)) (s : Shared) (u : Value), Inv X pins σ H s → RelV v u →
  wpAny (model X.prog X.w) X.A (assign tg X.env u) (fun _ s' => ∃ σ' H', Inv X pins σ' H' s' ∧ Q σ' H') X.xe s
def RGs (X : Cx) (ts : List Expr) : TGs := fun vs σ H Q => ∀ (pins : List (Addr × Obj)) (s : Shared) (us : List Value), Inv X pins σ H s → Vals vs us →
  wpAny (model X.prog X.w) X.A (assignInOrder ((assignEach ts X.env).map (·.2)) us) (fun _ s' => ∃ σ' H', Inv X pins σ' H' s' ∧ Q σ' H') X.xe s
/-- by values -/
def RO (X : Cx) (f : Value → Value → Sem Value) : R2 := fun x y H Q => ∀ (pins : List (Addr × Obj)) (s : Shared) (σ : St) (v u : Value), Inv X pins σ H s → RelV x v → RelV y u → wpAny (model X.prog X.w) X.A (f v u) (EP X pins σ Q) X.xe s
def RU (X : Cx) (f : Value → Sem Value) : V → Hp → VK → Prop := fun x H Q => ∀ (pins : List (Addr × Obj)) (s : Shared) (σ : St) (v : Value), Inv X pins σ H s → RelV x v → wpAny (model X.prog X.w) X.A (f v) (EP X pins σ Q) X.xe s
def RTru (X : Cx) : V → Hp → (Bool → Hp → Prop) → Prop := fun x H Q => ∀ (pins : List (Addr × Obj)) (s : Shared) (σ : St) (v : Value), Inv X pins σ H s → RelV x v → wpAny (model X.prog X.w) X.A (truthy v) (TP X pins σ Q) X.xe s
def RC (X : Cx) (f : Value) : List V → Hp → VK → Prop := fun xs H Q => ∀ (pins : List (Addr × Obj)) (s : Shared) (σ : St) (us : List Value), Inv X pins σ H s → Vals xs us → wpAny (model X.prog X.w) X.A (call f us) (EP X pins σ Q) X.xe s
def RM (X : Cx) (id : String) : V → List V → Hp → VK → Prop := fun x xs H Q => ∀ (pins : List (Addr × Obj)) (s : Shared) (σ : St) (v : Value) (us : List Value), Inv X pins σ H s → RelV x v → Vals xs us → wpAny (model X.prog X.w) X.A (call (.builtin id) (v :: us)) (EP X pins σ Q) X.xe s
def RIx (X : Cx) : R2 := fun x y H Q => ∀ (value slice : Expr) (pins : List (Addr × Obj)) (s : Shared) (σ : St) (v u : Value), Inv X pins σ H s → RelV x v → RelV y u → subscripted slice false v u = operate [v, u] (getItem v u) → wpAny (model X.prog X.w) X.A (subscriptTail value slice v u) (EP X pins σ Q) X.xe s
def RSl (X : Cx) : V → Option Int → Option Int → Hp → VK → Prop := fun x lo hi H Q => ∀ (pins : List (Addr × Obj)) (s : Shared) (σ : St) (v vl vu : Value) (sl : Addr), Inv X pins σ H s → RelV x v → s.heap.IsSliceOf sl vl vu .none → IsPart vl lo → IsPart vu hi →
    ∃ T id, typeLookup (.type T) "__getitem__" = pure (some (.builtin id)) ∧ s.TypeIs v T ∧ wpAny (model X.prog X.w) X.A (getItem v (.ref sl)) (EP X pins σ Q) X.xe s
def RIp (X : Cx) (op : Operator) : TIp := fun x y H Q => ∀ (pins : List (Addr × Obj)) (s : Shared) (σ : St) (v u : Value), Inv X pins σ H s → RelV x v → RelV y u → wpAny (model X.prog X.w) X.A (inplaceOp op v u) (EP X pins σ Q) X.xe s
def RSet (X : Cx) : TSet := fun o i v H Q => ∀ (pins : List (Addr × Obj)) (s : Shared) (σ : St) (ov iv u : Value), Inv X pins σ H s → RelV o ov → RelV i iv → RelV v u → wpAny (model X.prog X.w) X.A (setItem ov iv u) (fun _ s' => ∃ H', Inv X pins σ H' s' ∧ Q H') X.xe s

section
variable {X : Cx} {e a b c o : Expr} {es : List Expr} {st : Stmt} {sts rest : List Stmt} {σ : St} {H : Hp} {Q : VK} {QB : Bool → Hp → Prop} {QA : List V → Hp → Prop} {D : Ends} {pos pos' p apos : Pos} {x : Str} {v w : V} {kws : List Keyword}
theorem re (e : Expr) : PE X e (RE X e) := ⟨fun pins s σ H Q I h => h pins s I⟩
theorem rt (e : Expr) : PT X e (RT X e) := ⟨fun pins s σ H Q I h => h pins s I⟩
theorem rw' (e : Expr) : PW X e (RW X e) := ⟨fun wh pins s σ H Q I h => h wh pins s I⟩
theorem ra (es : List Expr) : PA X es (RA X es) := ⟨fun pos pins s σ H Q I h => h pos pins s I⟩
theorem rk (kws : List Keyword) : PK X kws (RK X kws) := ⟨fun pos pins s σ H Q I h => h pos pins s I⟩
theorem rs (st : Stmt) : PS X st (RS X st) := ⟨fun pins s σ H D I h => h pins s I⟩
theorem rss (sts : List Stmt) : PSs X sts (RSs X sts) := ⟨fun pins s σ H D I h => h pins s I⟩
theorem rg (tg : Expr) : PG X tg (RG X tg) := ⟨fun pins s σ H v u Q I r h => h pins s u I r⟩
theorem rgs (ts : List Expr) : PGs X ts (RGs X ts) := ⟨fun pins s σ H vs us Q I r h => h pins s us I r⟩
theorem ro (f : Value → Value → Sem Value) : OpR X f (RO X f) := fun pins s σ H x y v u Q I r1 r2 h => h pins s σ v u I r1 r2
theorem ru (f : Value → Sem Value) : UnR X f (RU X f) := fun pins s σ H x v Q I r1 h => h pins s σ v I r1
theorem rtru : TruR X (RTru X) := fun pins s σ H x v Q I r1 h => h pins s σ v I r1
theorem rc (f : Value) : CallR X f (RC X f) := fun pins s σ H xs us Q I r h => h pins s σ us I r
theorem rm (id : String) : MtR X id (RM X id) := fun pins s σ H x xs v us Q I r1 r2 h => h pins s σ v us I r1 r2
theorem rix : IxR X (RIx X) := fun value slice pins s σ H x y v u Q I r1 r2 h hs => h value slice pins s σ v u I r1 r2 hs
theorem rset : PSet X (RSet X) := fun pins s σ H o i v ov iv u Q I r1 r2 r3 h => h pins s σ ov iv u I r1 r2 r3
theorem re_of {t : TE} (h : PE X e t) (k : t σ H Q) : RE X e σ H Q := fun pins s I => h.run pins s σ H Q I k
theorem rt_of {t : TT} (h : PT X e t) (k : t σ H QB) : RT X e σ H QB := fun pins s I => h.run pins s σ H QB I k
theorem rw_of {t : TT} (h : PW X e t) (k : t σ H QB) : RW X e σ H QB := fun wh pins s I => h.run wh pins s σ H QB I k
theorem ra_of {t : TA} (h : PA X es t) (k : t σ H QA) : RA X es σ H QA := fun pos pins s I => h.run pos pins s σ H QA I k
theorem rk_of {t : TA} (h : PK X kws t) (k : t σ H QA) : RK X kws σ H QA := fun pos pins s I => h.run pos pins s σ H QA I k
theorem rs_of {t : TS} (h : PS X st t) (k : t D σ H) : RS X st D σ H := fun pins s I => h.run pins s σ H D I k
theorem rss_of {t : TS} (h : PSs X sts t) (k : t D σ H) : RSs X sts D σ H := fun pins s I => h.run pins s σ H D I k
theorem rg_of {t : TG} {Qg : St → Hp → Prop} (h : PG X e t) (k : t v σ H Qg) : RG X e v σ H Qg := fun pins s u I r => h.run pins s σ H v u Qg I r k
theorem rgs_of {t : TGs} {vs : List V} {Qg : St → Hp → Prop} (h : PGs X es t) (k : t vs σ H Qg) : RGs X es vs σ H Qg := fun pins s us I r => h.run pins s σ H vs us Qg I r k
theorem ro_of {f : Value → Value → Sem Value} {r : R2} (h : OpR X f r) (k : r v w H Q) : RO X f v w H Q := fun pins s σ a b I r1 r2 => h pins s σ H v w a b Q I r1 r2 k
theorem ru_of {f : Value → Sem Value} {r : V → Hp → VK → Prop} (h : UnR X f r) (k : r v H Q) : RU X f v H Q := fun pins s σ a I r1 => h pins s σ H v a Q I r1 k
theorem rtru_of {r : V → Hp → (Bool → Hp → Prop) → Prop} (h : TruR X r) (k : r v H QB) : RTru X v H QB := fun pins s σ a I r1 => h pins s σ H v a QB I r1 k
theorem rc_of {f : Value} {vs : List V} {r : List V → Hp → VK → Prop} (h : CallR X f r) (k : r vs H Q) : RC X f vs H Q := fun pins s σ us I r1 => h pins s σ H vs us Q I r1 k
theorem rm_of {id : String} {vs : List V} {r : V → List V → Hp → VK → Prop} (h : MtR X id r) (k : r v vs H Q) : RM X id v vs H Q := fun pins s σ a us I r1 r2 => h pins s σ H v vs a us Q I r1 r2 k
theorem rix_of {r : R2} (h : IxR X r) (k : r v w H Q) : RIx X v w H Q := fun value slice pins s σ a b I r1 r2 hs => h value slice pins s σ H v w a b Q I r1 r2 k hs
theorem rset_of {z : V} {t : TSet} {Qh : Hp → Prop} (h : PSet X t) (k : t v w z H Qh) : RSet X v w z H Qh := fun pins s σ ov iv u I r1 r2 r3 => h pins s σ H v w z ov iv u Qh I r1 r2 r3 k

/-! ### expressions -/
theorem e_int {i : Int} {j} (q : Q (.int i) H) : RE X (.Constant (.int i) j pos) σ H Q := re_of pe_int q
theorem e_bl {k : Bool} {j} (q : Q (.bl k) H) : RE X (.Constant (.bool k) j pos) σ H Q := re_of pe_bl q
theorem e_non {j} (q : Q .non H) : RE X (.Constant .none j pos) σ H Q := re_of pe_non q
theorem e_str {y : Str} {j} (q : Q (.str y) H) : RE X (.Constant (.str y) j pos) σ H Q := re_of pe_str q
theorem e_bin {op : Operator} (q : RE X a σ H fun x H1 => RE X b σ H1 fun y H2 => RO X (binaryOp op) x y H2 Q) : RE X (.BinOp a op b pos) σ H Q := re_of (pe_op (ro _) (re a) (re b)) q
theorem e_un {op : UnaryOp} (q : RE X a σ H fun x H1 => RU X (unaryOp op) x H1 Q) : RE X (.UnaryOp op a pos) σ H Q := re_of (pe_un (ru _) (re a)) q
theorem e_not (q : RE X a σ H fun x H1 => ∃ c, x = .bl c ∧ Q (.bl (!c)) H1) : RE X (.UnaryOp .Not a pos) σ H Q := re_of (pe_not (re a)) q
theorem e_cmp {op : CmpOp} (hm : behindInMarks op b = false) (q : RE X a σ H fun x H1 => RE X b σ H1 fun y H2 => RO X (compareOp op) x y H2 Q) : RE X (.Compare a [op] [b] pos) σ H Q := re_of (pe_cmpR (ro _) (re a) (re b) hm) q
theorem e_one {op} (q : RE X a σ H Q) : RE X (.BoolOp op [a] pos) σ H Q := re_of (pe_one (re a)) q
theorem e_and (q : RE X a σ H fun x H1 => ∃ k, x = .bl k ∧ if k = true then RE X (.BoolOp .And (b :: es) pos) σ H1 Q else Q (.bl false) H1) : RE X (.BoolOp .And (a :: b :: es) pos) σ H Q := re_of (pe_and (re a) (re _)) q
theorem e_or (q : RE X a σ H fun x H1 => ∃ k, x = .bl k ∧ if k = true then Q (.bl true) H1 else RE X (.BoolOp .Or (b :: es) pos) σ H1 Q) : RE X (.BoolOp .Or (a :: b :: es) pos) σ H Q := re_of (pe_or (re a) (re _)) q
theorem e_if (q : RT X c σ H fun k H1 => if k = true then RE X a σ H1 Q else RE X b σ H1 Q) : RE X (.IfExp c a b pos) σ H Q := re_of (pe_ifExp (rt c) (re a) (re b)) q
theorem e_tup {k} (q : RA X es σ H fun xs H1 => xs.length ≤ sizeLine ∧ ∀ p, H1 p = none → Q (.ref p) (upd H1 p (.tup xs))) : RE X (.Tuple es k pos) σ H Q := re_of (pe_tup (ra es)) q
theorem e_lst (q : RA X es σ H fun xs H1 => xs.length ≤ sizeLine ∧ ∀ p, H1 p = none → Q (.ref p) (upd H1 p (.lst xs))) : RE X (.List es pos) σ H Q := re_of (pe_lst (ra es)) q
theorem e_ix (hs : PlainIx b) (q : RE X a σ H fun x H1 => RE X b σ H1 fun y H2 => RIx X x y H2 Q) : RE X (.Subscript a b pos) σ H Q := re_of (pe_ix rix (re a) (re b) hs) q
theorem a_nil (q : QA [] H) : RA X [] σ H QA := ra_of pa_nil q
theorem a_cons (hs : starEach (e :: es) X.env = (false, eval e X.env) :: starEach es X.env) (q : RE X e σ H fun x H1 => RA X es σ H1 fun xs H2 => QA (x :: xs) H2) : RA X (e :: es) σ H QA := ra_of (pa_cons (re e) (ra es) hs) q
theorem e_fld {f : Str} (hb : attributeBase e f X.env (eval e X.env) = eval e X.env) (q : RE X e σ H fun x H1 => ∃ a C dx fs v, x = .ref a ∧ H1 a = some (.ins C dx fs) ∧ Cls X.K C ∧ NoAttr X.K C f ∧ fs.lookup f = some v ∧ Q v H1) : RE X (.Attribute e f pos) σ H Q := re_of (pe_fld (re e) hb) q
/-- a builtin by its name -/
theorem e_callB {id : String} (hg : Gl X x) (hm : X.mg x = none) (hv : bootBuiltins x = some (.builtin id)) (hn : x ≠ "__name__") (hd : (x == ("__debug__" : Str)) = false) (hs : starEach (e :: es) X.env = (false, eval e X.env) :: starEach es X.env) (hpl : (backTo pos (starEach es X.env)).any (·.1) = false)
    (q : RA X (e :: es) σ H fun vs H1 => RC X (.builtin id) vs H1 Q) : RE X (.Call (.Name x p) (e :: es) [] pos) σ H Q := re_of (pe_callB (rc _) hg hm hv (ra _) hn hd hs hpl) q
theorem e_callTy {T : String} (hg : Gl X x) (hm : X.mg x = none) (hv : bootBuiltins x = some (.type T)) (hn : x ≠ "__name__") (hd : (x == ("__debug__" : Str)) = false) (hs : starEach (e :: es) X.env = (false, eval e X.env) :: starEach es X.env) (hpl : (backTo pos (starEach es X.env)).any (·.1) = false)
    (q : RA X (e :: es) σ H fun vs H1 => RC X (.type T) vs H1 Q) : RE X (.Call (.Name x p) (e :: es) [] pos) σ H Q := re_of (pe_callTy (rc _) hg hm hv (ra _) hn hd hs hpl) q

theorem rsl : SlR X (RSl X) := fun pins s σ H x v vl vu lo hi sl Q I r1 h1 h2 h3 h => h pins s σ v vl vu sl I r1 h1 h2 h3
theorem rsl_of {lo hi : Option Int} {r : V → Option Int → Option Int → Hp → VK → Prop} (h : SlR X r) (k : r v lo hi H Q) : RSl X v lo hi H Q := fun pins s σ a vl vu sl I r1 h1 h2 h3 => h pins s σ H v a vl vu lo hi sl Q I r1 h1 h2 h3 k
theorem rip (op : Operator) : PIp X op (RIp X op) := fun pins s σ H x y v u Q I r1 r2 h => h pins s σ v u I r1 r2
theorem rip_of {op : Operator} {r : TIp} (h : PIp X op r) (k : r v w H Q) : RIp X op v w H Q := fun pins s σ a b I r1 r2 => h pins s σ H v w a b Q I r1 r2 k
/-- the parts of a slice -/
def tO (X : Cx) : Option Expr → TO
  | none => tNoPart
  | some e => tPart (RE X e)
theorem ro_part (lo : Option Expr) : PO X lo (tO X lo) := by
  cases lo with
  | none => exact po_none
  | some e => exact po_some (re e)
theorem e_sl {lo hi : Option Expr} {p2 : Pos} (q : RE X e σ H fun x H1 => tO X lo σ H1 fun l H2 => tO X hi σ H2 fun u H3 => RSl X x l u H3 Q) : RE X (.Subscript e (.Slice lo hi none p2) pos) σ H Q := re_of (pe_slice rsl (re e) (ro_part lo) (ro_part hi)) q
theorem p_none {k : Option Int → Hp → Prop} (q : k none H) : tO X none σ H k := q
theorem p_some {k : Option Int → Hp → Prop} (q : RE X e σ H fun x H1 => ∃ i, x = .int i ∧ k (some i) H1) : tO X (some e) σ H k := q
/-! ### tests -/
theorem t_val (he : ∀ whole, isTrue e X.env whole = (do let v ← whole; standAt e.pos; holding [v] (truthy v))) (q : RE X e σ H fun x H1 => RTru X x H1 QB) : RT X e σ H QB := rt_of (pt_truthR (re e) rtru he) q
theorem t_cmp {op : CmpOp} (hm : behindInMarks op b = false) (q : RE X a σ H fun x H1 => RE X b σ H1 fun y H2 => RO X (compareOp op) x y H2 fun z H3 => ∃ k, z = .bl k ∧ QB k H3) : RT X (.Compare a [op] [b] pos) σ H QB := rt_of (pt_cmpR (ro _) (re a) (re b) hm) q
theorem t_not (q : RT X a σ H fun k H1 => QB (!k) H1) : RT X (.UnaryOp .Not a pos) σ H QB := rt_of (pt_not (rt a)) q
theorem t_pw (q : RW X e σ H QB) : RT X e σ H QB := rt_of (PW.pt (rw' e)) q
theorem w_and1 (q : RT X a σ H QB) : RW X (.BoolOp .And [a] pos) σ H QB := rw_of (pw_and1 (rt a)) q
theorem w_or1 (q : RT X a σ H QB) : RW X (.BoolOp .Or [a] pos) σ H QB := rw_of (pw_or1 (rt a)) q
theorem w_and (q : RT X a σ H fun k H1 => if k = true then RW X (.BoolOp .And (b :: es) pos) σ H1 QB else QB false H1) : RW X (.BoolOp .And (a :: b :: es) pos) σ H QB := rw_of (pw_and (rt a) (rw' _)) q
theorem w_or (q : RT X a σ H fun k H1 => if k = true then QB true H1 else RW X (.BoolOp .Or (b :: es) pos) σ H1 QB) : RW X (.BoolOp .Or (a :: b :: es) pos) σ H QB := rw_of (pw_or (rt a) (rw' _)) q

/-! ### statements -/
variable {nx bk ct : St → Hp → Prop} {rt' : VK}
theorem ss_nil (q : nx σ H) : RSs X [] ⟨nx, rt', bk, ct⟩ σ H := rss_of pss_nil q
theorem ss_cons (q : RS X st ⟨RSs X rest ⟨nx, rt', bk, ct⟩, rt', bk, ct⟩ σ H) : RSs X (st :: rest) ⟨nx, rt', bk, ct⟩ σ H := rss_of (pss_cons (rs st) (rss rest)) q
theorem s_pass (q : nx σ H) : RS X (.Pass pos) ⟨nx, rt', bk, ct⟩ σ H := rs_of ps_pass q
theorem s_break (q : bk σ H) : RS X (.Break pos) ⟨nx, rt', bk, ct⟩ σ H := rs_of ps_break q
theorem s_continue (q : ct σ H) : RS X (.Continue pos) ⟨nx, rt', bk, ct⟩ σ H := rs_of ps_continue q
theorem s_expr (hs : swapsWith e none pos.line X.env = pure false) (q : RE X e σ H fun _ H1 => nx σ H1) : RS X (.Expr e pos) ⟨nx, rt', bk, ct⟩ σ H := rs_of (ps_expr (re e) hs) q
theorem s_ret (q : RE X e σ H rt') : RS X (.Return (some e) pos) ⟨nx, rt', bk, ct⟩ σ H := rs_of (ps_ret (re e)) q
theorem s_retN (q : rt' .non H) : RS X (.Return none pos) ⟨nx, rt', bk, ct⟩ σ H := rs_of ps_retN q
theorem s_if {A B : List Stmt} (q : RT X c σ H fun k H1 => if k = true then RSs X A ⟨nx, rt', bk, ct⟩ σ H1 else RSs X B ⟨nx, rt', bk, ct⟩ σ H1) : RS X (.If c A B pos) ⟨nx, rt', bk, ct⟩ σ H := rs_of (ps_if (rt c) (rss A) (rss B)) q
/-- the slot of a name -/
def setN : List Str → St → Str → V → St
  | n :: ns, o :: os, x, v => if x = n then some v :: os else o :: setN ns os x v
  | _, σ, _, _ => σ
theorem setN_eq {v : V} : ∀ {N : List Str} {σ : St} {x : Str} {i : Nat}, N[i]? = some x → N.Nodup → setN N σ x v = σ.set i (some v)
  | [], _, _, _, h, _ => by simp at h
  | n :: ns, [], x, i, h, _ => by simp [setN]
  | n :: ns, o :: os, x, 0, h, _ => by
    have e : n = x := by simpa using h
    unfold setN
    rw [if_pos e.symm]
    rfl
  | n :: ns, o :: os, x, i + 1, h, hn => by
    have h' : ns[i]? = some x := by simpa using h
    have hne : x ≠ n := fun e => (List.nodup_cons.mp hn).1 (e ▸ List.mem_of_getElem? h')
    unfold setN
    rw [if_neg hne, setN_eq h' (List.nodup_cons.mp hn).2]
    rfl
theorem idx_of {N : List Str} {x : Str} (h : N.contains x = true) : ∃ i : Nat, N[i]? = some x := by
  have h' : x ∈ N := by simpa using h
  exact List.getElem?_of_mem h'
theorem at_idx {N : List Str} {x : Str} (h : N.contains x = true) : N[N.idxOf x]? = some x := by
  have h' : x ∈ N := by simpa using h
  rw [List.getElem?_eq_getElem (List.idxOf_lt_length_of_mem h')]
  rw [List.getElem_idxOf]
theorem s_set {σ' : St} (hN : X.N.Nodup) (hi : X.N.contains x = true) (hx : Loc X.env.scope x) (hf : X.fn x = true ∨ X.env.scope.names.lookup x = some .local) (hs : swapsWith e (some (.Name x pos')) pos.line X.env = pure false)
    (q : RE X e σ H fun v H1 => nx (setN X.N σ x v) H1) : RS X (.Assign [.Name x pos'] e pos) ⟨nx, rt', bk, ct⟩ σ H := by
  obtain ⟨i, h⟩ := idx_of hi
  refine rs_of (ps_set (i := i) hN h hx (re e) hs hf) ?_
  have e1 : (fun v H1 => nx (setN X.N σ x v) H1) = fun v H1 => nx (σ.set i (some v)) H1 := by
    funext v H1
    rw [setN_eq h hN]
  rw [e1] at q
  exact q
theorem e_name (h : (X.N.zip σ).lookup x = some (some v)) (hv : Vis X.env.scope x) (hd : (x == ("__debug__" : Str)) = false) (hcd : (x == ("__classdict__" : Str)) = false) (q : Q v H) : RE X (.Name x pos) σ H Q := by
  obtain ⟨i, h1, h2⟩ : ∃ i : Nat, X.N[i]? = some x ∧ σ[i]? = some (some v) := by
    generalize X.N = N at h
    clear q hv hd hcd
    induction N generalizing σ with
    | nil => simp at h
    | cons n ns ih =>
      cases σ with
      | nil => simp at h
      | cons o os =>
        rw [List.zip_cons_cons, List.lookup_cons] at h
        split at h
        · rename_i hh
          have e : x = n := by simpa using hh
          exact ⟨0, by rw [e]; rfl, by cases h; rfl⟩
        · obtain ⟨i, h1, h2⟩ := ih h
          exact ⟨i + 1, h1, h2⟩
  exact re_of (pe_var h1 hv hd hcd) ⟨v, h2, q⟩
theorem e_glob {u : Value} (hg : Gl X x) (hm : X.mg x = some u) (r : RelV v u) (hd : (x == ("__debug__" : Str)) = false) (q : Q v H) : RE X (.Name x pos) σ H Q := re_of (pe_glob hg hm r hd) q
theorem e_bltn {u : Value} (hg : Gl X x) (hm : X.mg x = none) (hv : bootBuiltins x = some u) (r : RelV v u) (hn : x ≠ "__name__") (hd : (x == ("__debug__" : Str)) = false) (q : Q v H) : RE X (.Name x pos) σ H Q := re_of (pe_bltn hg hm hv r hn hd) q
theorem s_asg {tg : Expr} (hs : swapsWithSole [tg] e pos.line X.env = pure false) (hw : swappedStores [tg] e X.env = pure none) (h1 : (assignEach [tg] X.env).map (·.2) = [assign tg X.env])
    (q : RE X e σ H fun v H1 => RG X tg v σ H1 nx) : RS X (.Assign [tg] e pos) ⟨nx, rt', bk, ct⟩ σ H := rs_of (ps_asg (re e) (rg tg) hs hw h1) q
theorem g_name {Qg : St → Hp → Prop} (hN : X.N.Nodup) (hi : X.N.contains x = true) (hx : Loc X.env.scope x) (hf : X.fn x = true ∨ X.env.scope.names.lookup x = some .local) (q : Qg (setN X.N σ x v) H) : RG X (.Name x pos) v σ H Qg := by
  obtain ⟨i, h⟩ := idx_of hi
  rw [setN_eq h hN] at q
  exact rg_of (pg_name (i := i) hN h hx hf) q
theorem g_tup {Qg : St → Hp → Prop} {k : Nat} {n : Nat} (hc : X.calm = true) (hn : (assignEach es X.env).length = n) (hst : (assignEach es X.env).findIdx? (·.1) = none) {t : Addr} {xs : List V} (hx : SqT X.K H t xs) (hl : xs.length = n)
    (q : RGs X es xs σ H Qg) : RG X (.Tuple es k pos) (.ref t) σ H Qg := rg_of (pg_tup hc (rgs es) hn hst) ⟨t, xs, rfl, hx, hl, q⟩
theorem gs_nil {Qg : St → Hp → Prop} (q : Qg σ H) : RGs X [] [] σ H Qg := rgs_of pgs_nil ⟨rfl, q⟩
theorem gs_cons {Qg : St → Hp → Prop} {vs : List V} (hs : (assignEach (e :: es) X.env).map (·.2) = assign e X.env :: (assignEach es X.env).map (·.2)) (q : RG X e v σ H fun σ' H' => RGs X es vs σ' H' Qg) : RGs X (e :: es) (v :: vs) σ H Qg := rgs_of (pgs_cons (rg e) (rgs es) hs) ⟨v, vs, rfl, q⟩
theorem g_sub {Qg : St → Hp → Prop} (ha : ∀ y, assign (.Subscript o a pos) X.env y = (do let z ← holding [y] (eval o X.env); let i ← holding [y, z] (eval a X.env); standAt pos; holding [y, z, i] (setItem z i y); release [y, z, i] [])) (q : RE X o σ H fun z H1 => RE X a σ H1 fun i H2 => RSet X z i v H2 fun H3 => Qg σ H3) : RG X (.Subscript o a pos) v σ H Qg := rg_of (pg_sub (re o) (re a) rset ha) q

/-! ### operators on ints -/
variable {i j : Int}
theorem o_add (q : Q (.int (i + j)) H) : RO X (binaryOp .Add) (.int i) (.int j) H Q := ro_of op_add ⟨i, j, rfl, rfl, q⟩
theorem o_sub (q : Q (.int (i - j)) H) : RO X (binaryOp .Sub) (.int i) (.int j) H Q := ro_of op_sub ⟨i, j, rfl, rfl, q⟩
theorem o_mul (hc : IntMulOk i j) (q : Q (.int (i * j)) H) : RO X (binaryOp .Mult) (.int i) (.int j) H Q := by
  refine ro_of (r := rI IntMulOk fun i j => .int (i * j)) ?_ ⟨i, j, rfl, rfl, hc, q⟩
  exact opI fun _ _ _ _ _ _ _ hc q => mul_int q hc
theorem o_mod (h : 0 < j) (q : Q (.int (i % j)) H) : RO X (binaryOp .Mod) (.int i) (.int j) H Q := ro_of op_mod ⟨i, j, rfl, rfl, h, q⟩
theorem o_fdiv (h : 0 < j) (hb : j < 2 ^ 8999) (q : Q (.int (i / j)) H) : RO X (binaryOp .FloorDiv) (.int i) (.int j) H Q :=
  ro_of op_fdivW ⟨i, j, rfl, rfl, wide_div (b := 8999) h (by omega) (by decide) (by decide), q⟩
theorem o_fdiv30 (h : 0 < j ∧ j < 1073741824) (q : Q (.int (i / j)) H) : RO X (binaryOp .FloorDiv) (.int i) (.int j) H Q := ro_of op_fdiv ⟨i, j, rfl, rfl, h, q⟩
theorem o_pow (h : 0 ≤ j ∧ j ≤ 1000000 ∧ i.natAbs < 2 ^ 64) (q : Q (.int (i ^ j.toNat)) H) : RO X (binaryOp .Pow) (.int i) (.int j) H Q := ro_of op_pow ⟨i, j, rfl, rfl, h, q⟩
theorem o_shl (h : CShl i j) (q : Q (.int (i * 2 ^ j.toNat)) H) : RO X (binaryOp .LShift) (.int i) (.int j) H Q := ro_of op_shlW ⟨i, j, rfl, rfl, h, q⟩
theorem o_shr (h : 0 ≤ j) (q : Q (.int (i / 2 ^ j.toNat)) H) : RO X (binaryOp .RShift) (.int i) (.int j) H Q := ro_of op_shr ⟨i, j, rfl, rfl, h, q⟩
theorem o_and (q : Q (.int (Builtin.bitAnd i j)) H) : RO X (binaryOp .BitAnd) (.int i) (.int j) H Q := ro_of op_and ⟨i, j, rfl, rfl, q⟩
theorem o_or (q : Q (.int (Builtin.bitOr i j)) H) : RO X (binaryOp .BitOr) (.int i) (.int j) H Q := ro_of op_or ⟨i, j, rfl, rfl, q⟩
theorem o_xor (q : Q (.int (Builtin.bitXor i j)) H) : RO X (binaryOp .BitXor) (.int i) (.int j) H Q := ro_of op_xor ⟨i, j, rfl, rfl, q⟩
theorem u_neg (q : Q (.int (-i)) H) : RU X (unaryOp .USub) (.int i) H Q := ru_of un_neg ⟨i, rfl, q⟩
theorem u_inv (q : Q (.int (Builtin.bitNot i)) H) : RU X (unaryOp .Invert) (.int i) H Q := ru_of un_inv ⟨i, rfl, q⟩
theorem c_lt (q : Q (.bl (decide (i < j))) H) : RO X (compareOp .Lt) (.int i) (.int j) H Q := ro_of op_lt ⟨i, j, rfl, rfl, q⟩
theorem c_le (q : Q (.bl (decide (i ≤ j))) H) : RO X (compareOp .LtE) (.int i) (.int j) H Q := ro_of op_le ⟨i, j, rfl, rfl, q⟩
theorem c_gt (q : Q (.bl (decide (j < i))) H) : RO X (compareOp .Gt) (.int i) (.int j) H Q := ro_of op_gt ⟨i, j, rfl, rfl, q⟩
theorem c_ge (q : Q (.bl (decide (j ≤ i))) H) : RO X (compareOp .GtE) (.int i) (.int j) H Q := ro_of op_ge ⟨i, j, rfl, rfl, q⟩
theorem c_eqI (q : Q (.bl (decide (i = j))) H) : RO X (compareOp .Eq) (.int i) (.int j) H Q := ro_of op_eq ⟨rfl, (show decide (V.int i = V.int j) = decide (i = j) by simp) ▸ q⟩
theorem c_neI (q : Q (.bl (!decide (i = j))) H) : RO X (compareOp .NotEq) (.int i) (.int j) H Q := ro_of op_ne ⟨rfl, (show decide (V.int i = V.int j) = decide (i = j) by simp) ▸ q⟩
theorem c_eqS {y z : Str} (q : Q (.bl (decide (y = z))) H) : RO X (compareOp .Eq) (.str y) (.str z) H Q := ro_of op_eq ⟨rfl, (show decide (V.str y = V.str z) = decide (y = z) by simp) ▸ q⟩
theorem c_neS {y z : Str} (q : Q (.bl (!decide (y = z))) H) : RO X (compareOp .NotEq) (.str y) (.str z) H Q := ro_of op_ne ⟨rfl, (show decide (V.str y = V.str z) = decide (y = z) by simp) ▸ q⟩
theorem c_eqB {y z : Bool} (q : Q (.bl (decide (y = z))) H) : RO X (compareOp .Eq) (.bl y) (.bl z) H Q := ro_of op_eq ⟨rfl, (show decide (V.bl y = V.bl z) = decide (y = z) by simp) ▸ q⟩
theorem c_neB {y z : Bool} (q : Q (.bl (!decide (y = z))) H) : RO X (compareOp .NotEq) (.bl y) (.bl z) H Q := ro_of op_ne ⟨rfl, (show decide (V.bl y = V.bl z) = decide (y = z) by simp) ▸ q⟩
theorem c_isN (q : Q (.bl (decide (v = .non))) H) : RO X (compareOp .Is) v .non H Q := ro_of op_isN ⟨rfl, q⟩
theorem c_notN (q : Q (.bl (!decide (v = .non))) H) : RO X (compareOp .IsNot) v .non H Q := ro_of op_notN ⟨rfl, q⟩
theorem tr_bl {k : Bool} (q : QB k H) : RTru X (.bl k) H QB := rtru_of tru_ok ⟨k, rfl, q⟩
theorem tr_int (q : QB (i != 0) H) : RTru X (.int i) H QB := rtru_of tru_ok ⟨_, rfl, q⟩
theorem ix_lst {p : Addr} {xs : List V} (h : SqL X.K H p xs) (ha : atI xs i = some v) (q : Q v H) : RIx X (.ref p) (.int i) H Q := rix_of ix_list ⟨p, xs, i, v, rfl, rfl, h, ha, q⟩
theorem ix_tp {p : Addr} {xs : List V} (h : SqT X.K H p xs) (ha : atI xs i = some v) (q : Q v H) : RIx X (.ref p) (.int i) H Q := rix_of ix_tup ⟨p, xs, i, v, rfl, rfl, h, ha, q⟩
theorem set_lst {p : Addr} {xs : List V} {k : Nat} {Qh : Hp → Prop} (h : H p = some (.lst xs)) (hk : ixN xs.length i = some k) (q : Qh (upd H p (.lst (xs.set k v)))) : RSet X (.ref p) (.int i) v H Qh := rset_of set_list ⟨p, xs, i, k, rfl, rfl, h, hk, q⟩
theorem sl_l {p : Addr} {xs : List V} {lo hi : Option Int} (h : SqL X.K H p xs) (q : ∀ l, H l = none → Q (.ref l) (upd H l (.lst (cutV xs lo hi)))) : RSl X (.ref p) lo hi H Q := rsl_of sl_list ⟨p, xs, rfl, h, q⟩
theorem sl_t {p : Addr} {xs : List V} {lo hi : Option Int} (h : SqT X.K H p xs) (q1 : HT.sIx xs.length 0 lo = 0 ∧ HT.sIx xs.length xs.length hi = xs.length → Q (.ref p) H) (q2 : ¬ (HT.sIx xs.length 0 lo = 0 ∧ HT.sIx xs.length xs.length hi = xs.length) → ∀ l, H l = none → Q (.ref l) (upd H l (.tup (cutV xs lo hi)))) : RSl X (.ref p) lo hi H Q := rsl_of sl_tupA ⟨p, xs, rfl, h, q1, q2⟩
theorem sl_s {z : Str} {lo hi : Option Int} (h : z.length ≤ sizeLine) (q : Q (.str (cutS z lo hi)) H) : RSl X (.str z) lo hi H Q := rsl_of sl_str ⟨z, rfl, h, q⟩
theorem o_cat {p r : Addr} {xs ys : List V} (h1 : H p = some (.lst xs)) (h2 : H r = some (.lst ys)) (hz : xs.length + ys.length ≤ sizeLine) (q : ∀ l, H l = none → Q (.ref l) (upd H l (.lst (xs ++ ys)))) : RO X (binaryOp .Add) (.ref p) (.ref r) H Q := ro_of op_cat ⟨p, r, xs, ys, rfl, rfl, h1, h2, hz, q⟩
theorem o_addS {y z : Str} (h : y.length + z.length ≤ sizeLine) (q : Q (.str (y ++ z)) H) : RO X (binaryOp .Add) (.str y) (.str z) H Q := ro_of op_add_str ⟨y, z, rfl, rfl, h, q⟩
theorem o_rep {p : Addr} {k : Int} {xs : List V} (h : H p = some (.lst xs)) (h1 : -(2 ^ 63) ≤ k) (h2 : k < 2 ^ 63) (hz : xs.length * k.toNat ≤ sizeLine) (q : ∀ l, H l = none → Q (.ref l) (upd H l (.lst (List.flatten (List.replicate k.toNat xs))))) : RO X (binaryOp .Mult) (.ref p) (.int k) H Q := by
  refine ro_of op_rep ⟨p, k, xs, rfl, rfl, h, h1, h2, hz, fun l hl => ?_⟩
  exact q l hl
theorem exI {i : Int} {A : Int → Prop} (q : A i) : ∃ k, V.int i = V.int k ∧ A k := ⟨i, rfl, q⟩
theorem b_int (q : Q (.int i) H) : RC X (.type "int") [.int i] H Q := rc_of call_int1 (.inl ⟨i, rfl, q⟩)
theorem b_abs (q : Q (.int (if i < 0 then -i else i)) H) : RC X (.builtin "abs") [.int i] H Q := rc_of call_abs ⟨i, rfl, q⟩
theorem b_max2 (hc : X.calm = true) (q : Q (.int (if j > i then j else i)) H) : RC X (.builtin "max") [.int i, .int j] H Q := rc_of (call_max2 hc) ⟨i, j, rfl, q⟩
theorem b_min2 (hc : X.calm = true) (q : Q (.int (if j < i then j else i)) H) : RC X (.builtin "min") [.int i, .int j] H Q := rc_of (call_min2 hc) ⟨i, j, rfl, q⟩
theorem b_lenL {p : Addr} {xs : List V} (h : SqL X.K H p xs) (q : Q (.int xs.length) H) : RC X (.builtin "len") [.ref p] H Q := rc_of call_len_seq ⟨p, xs, rfl, .inl h, q⟩
theorem b_lenT {p : Addr} {xs : List V} (h : SqT X.K H p xs) (q : Q (.int xs.length) H) : RC X (.builtin "len") [.ref p] H Q := rc_of call_len_seq ⟨p, xs, rfl, .inr h, q⟩
theorem b_divmod (h : 0 < j ∧ j < 1073741824) (q : ∀ p, H p = none → Q (.ref p) (upd H p (.tup [.int (i / j), .int (i % j)]))) : RC X (.builtin "divmod") [.int i, .int j] H Q := rc_of call_divmod ⟨i, j, rfl, h, q⟩
theorem b_tupL {p : Addr} {xs : List V} (h : SqL X.K H p xs) (q : ∀ l, H l = none → Q (.ref l) (upd H l (.tup xs))) : RC X (.type "tuple") [.ref p] H Q := rc_of call_tuple_of ⟨p, xs, rfl, .inl ⟨h, q⟩⟩
theorem b_tupT {p : Addr} {xs : List V} (h : SqT X.K H p xs) (q : Q (.ref p) H) : RC X (.type "tuple") [.ref p] H Q := rc_of call_tuple_of ⟨p, xs, rfl, .inr ⟨h, q⟩⟩
theorem b_lstL {p : Addr} {xs : List V} (h : SqL X.K H p xs) (q : ∀ l, H l = none → Q (.ref l) (upd H l (.lst xs))) : RC X (.type "list") [.ref p] H Q := rc_of call_list_of ⟨p, xs, rfl, .inl h, q⟩
theorem b_lstT {p : Addr} {xs : List V} (h : SqT X.K H p xs) (q : ∀ l, H l = none → Q (.ref l) (upd H l (.lst xs))) : RC X (.type "list") [.ref p] H Q := rc_of call_list_of ⟨p, xs, rfl, .inr h, q⟩
theorem b_all (hc : X.calm = true) {p : Addr} {bs : List Bool} (h : SqL X.K H p (bs.map V.bl)) (q : Q (.bl (bs.all id)) H) : RC X (.builtin "all") [.ref p] H Q := rc_of (cr_all hc) ⟨p, bs, rfl, h, q⟩
theorem mulL (h1 : -(2 ^ 64) < i) (h2 : i < 2 ^ 64) : IntMulOk i j := CMul.ok (.inl ⟨h1, h2⟩)
theorem mulR (h1 : -(2 ^ 64) < j) (h2 : j < 2 ^ 64) : IntMulOk i j := CMul.ok (.inr ⟨h1, h2⟩)
/-! ### branches -/
theorem brT {k : Bool} {A B : Prop} (h : k = true) (q : A) : if k = true then A else B := by rw [if_pos h]; exact q
theorem brF {k : Bool} {A B : Prop} (h : k = false) (q : B) : if k = true then A else B := by rw [h]; exact iteF q
theorem brD {P : Prop} [Decidable P] {A B : Prop} (h1 : P → A) (h2 : ¬ P → B) : if decide P = true then A else B := by
  by_cases h : P
  · rw [decide_eq_true h]; exact iteT (h1 h)
  · rw [decide_eq_false h]; exact iteF (h2 h)
theorem brN {P : Prop} [Decidable P] {A B : Prop} (h1 : ¬ P → A) (h2 : P → B) : if (!decide P) = true then A else B := by
  by_cases h : P
  · rw [decide_eq_true h]; exact iteF (h2 h)
  · rw [decide_eq_false h]; exact iteT (h1 h)
theorem brDT {P : Prop} [Decidable P] {A B : Prop} (h : P) (q : A) : if decide P = true then A else B := by rw [decide_eq_true h]; exact iteT q
theorem brDF {P : Prop} [Decidable P] {A B : Prop} (h : ¬ P) (q : B) : if decide P = true then A else B := by rw [decide_eq_false h]; exact iteF q
theorem brNT {P : Prop} [Decidable P] {A B : Prop} (h : ¬ P) (q : A) : if (!decide P) = true then A else B := by rw [decide_eq_false h]; exact iteT q
theorem brNF {P : Prop} [Decidable P] {A B : Prop} (h : P) (q : B) : if (!decide P) = true then A else B := by rw [decide_eq_true h]; exact iteF q
theorem brNt {A B : Prop} (q : B) : if (!true) = true then A else B := q
theorem brNf {A B : Prop} (q : A) : if (!false) = true then A else B := q
theorem normS {σ' : St} {ns : St → Hp → Prop} (h : σ = σ') (q : ns σ' H) : ns σ H := by rw [h]; exact q
end
/-! ### joining ways -/
section
variable {X : Cx} {e a b : Expr} {A B : List Stmt} {st : Stmt} {σ : St} {H : Hp} {Q R : VK} {nx bk ct Mid : St → Hp → Prop} {rt' : VK}
theorem re_mono (h : RE X e σ H R) (k : ∀ v H', R v H' → Q v H') : RE X e σ H Q := fun pins s I => thn (h pins s I) fun u s' ⟨v, H', I', r, q⟩ => ⟨v, H', I', r, k v H' q⟩
theorem rt_mono {e : Expr} {R Q : Bool → Hp → Prop} (h : RT X e σ H R) (k : ∀ v H', R v H' → Q v H') : RT X e σ H Q := fun pins s I => thn (h pins s I) fun v s' ⟨H', I', q⟩ => ⟨H', I', k v H' q⟩
theorem rss_mono {sts : List Stmt} (h : RSs X sts ⟨Mid, rt', bk, ct⟩ σ H) (k : ∀ σ' H', Mid σ' H' → nx σ' H') : RSs X sts ⟨nx, rt', bk, ct⟩ σ H := fun pins s I => thn (h pins s I) fun f s' q => by
  cases f with
  | next => obtain ⟨σ', H', I', q⟩ := q; exact ⟨σ', H', I', k σ' H' q⟩
  | brk => exact q
  | cont => exact q
  | ret u => exact q
theorem rs_mono (h : RS X st ⟨Mid, rt', bk, ct⟩ σ H) (k : ∀ σ' H', Mid σ' H' → nx σ' H') : RS X st ⟨nx, rt', bk, ct⟩ σ H := fun pins s I => thn (h pins s I) fun f s' q => by
  cases f with
  | next => obtain ⟨σ', H', I', q⟩ := q; exact ⟨σ', H', I', k σ' H' q⟩
  | brk => exact q
  | cont => exact q
  | ret u => exact q
theorem brJE {k : Bool} {H1 : Hp} (R : VK) (h1 : k = true → RE X a σ H1 R) (h2 : k = false → RE X b σ H1 R) (q : ∀ v H', R v H' → Q v H') : if k = true then RE X a σ H1 Q else RE X b σ H1 Q := by
  cases k with
  | true => exact iteT (re_mono (h1 rfl) q)
  | false => exact iteF (re_mono (h2 rfl) q)
theorem brJS {k : Bool} {H1 : Hp} (Mid : St → Hp → Prop) (h1 : k = true → RSs X A ⟨Mid, rt', bk, ct⟩ σ H1) (h2 : k = false → RSs X B ⟨Mid, rt', bk, ct⟩ σ H1) (q : ∀ σ' H', Mid σ' H' → nx σ' H') : if k = true then RSs X A ⟨nx, rt', bk, ct⟩ σ H1 else RSs X B ⟨nx, rt', bk, ct⟩ σ H1 := by
  cases k with
  | true => exact iteT (rss_mono (h1 rfl) q)
  | false => exact iteF (rss_mono (h2 rfl) q)
end

/-! ### heaps -/
def Grow (H H' : Hp) : Prop := ∀ b o, H b = some o → H' b = some o
theorem Grow.refl (H : Hp) : Grow H H := fun _ _ h => h
theorem Grow.trans {H H1 H2 : Hp} (a : Grow H H1) (b : Grow H1 H2) : Grow H H2 := fun c o h => b c o (a c o h)
theorem Grow.upd {H : Hp} {p : Addr} {o : HO} (h : H p = none) : Grow H (upd H p o) := fun b x e => by
  rw [upd_ne (ne_of_none e h)]
  exact e
/-- all but p -/
def GrowX (p : Addr) (H H' : Hp) : Prop := ∀ b o, H b = some o → b ≠ p → H' b = some o
theorem GrowX.refl (p : Addr) (H : Hp) : GrowX p H H := fun _ _ h _ => h
theorem GrowX.trans {p : Addr} {H H1 H2 : Hp} (a : GrowX p H H1) (b : GrowX p H1 H2) : GrowX p H H2 := fun c o h n => b c o (a c o h n) n
theorem Grow.x {H H' : Hp} (p : Addr) (g : Grow H H') : GrowX p H H' := fun b o h _ => g b o h
theorem GrowX.upd {H : Hp} {p : Addr} {o : HO} : GrowX p H (upd H p o) := fun b x e n => by
  rw [upd_ne n]
  exact e
theorem GrowX.mut {p D : Addr} {o : HO} {H H' : Hp} (g : GrowX p H H') (hD : H D = none) : GrowX p H (L2.upd H' D o) := fun b x e n => by
  rw [upd_ne (ne_of_none e hD)]
  exact g b x e n
theorem Grow.mut {D : Addr} {o : HO} {H H' : Hp} (g : Grow H H') (hD : H D = none) : Grow H (L2.upd H' D o) := fun b x e => by
  rw [upd_ne (ne_of_none e hD)]
  exact g b x e
theorem GrowX.new {p D : Addr} {o : HO} {H H' : Hp} (g : GrowX p H H') (hD : H' D = none) : GrowX p H (L2.upd H' D o) := fun b x e n => by
  have h := g b x e n
  rw [upd_ne (ne_of_none h hD)]
  exact h
theorem Grow.new {D : Addr} {o : HO} {H H' : Hp} (g : Grow H H') (hD : H' D = none) : Grow H (L2.upd H' D o) := fun b x e => by
  have h := g b x e
  rw [upd_ne (ne_of_none h hD)]
  exact h
theorem GrowX.non {p : Addr} {H H' : Hp} (g : GrowX p H H') (hp : ∃ o, H' p = some o) {b : Addr} (h : H' b = Option.none) : H b = Option.none := by
  cases q : H b with
  | none => rfl
  | some o =>
    by_cases e : b = p
    · subst e
      obtain ⟨_, z⟩ := hp
      rw [z] at h
      cases h
    · rw [g b o q e] at h
      cases h
theorem GrowX.free {p : Addr} {H H' : Hp} (g : GrowX p H H') (hp : ∃ o, H p = some o) {b : Addr} (h : H' b = none) : H b = none ∨ b = p := by
  by_cases e : b = p
  · exact .inr e
  · cases q : H b with
    | none => exact .inl rfl
    | some o => rw [g b o q e] at h; cases h
theorem Grow.free {H H' : Hp} (g : Grow H H') {b : Addr} (h : H' b = none) : H b = none := by
  cases q : H b with
  | none => rfl
  | some o => rw [g b o q] at h; cases h

theorem updN {H : Hp} {p q : Addr} {o x : HO} (hq : H q = Option.none) (hp : H p = some x) : L2.upd H q o p = some x := by
  rw [upd_ne (ne_of_none hp hq)]
  exact hp
theorem updNe {H : Hp} {p q : Addr} {o x : HO} (h : p ≠ q) (hp : H p = some x) : L2.upd H q o p = some x := by
  rw [upd_ne h]
  exact hp
theorem sq_new {K : PySem.W.Frag} {H H' : Hp} {b : Addr} {xs : List V} (g : Grow H H') (h : SqL K H b xs) : SqL K H' b xs := by
  rcases h with (h | ⟨o, h⟩) | h
  · exact .inl (.inl (g _ _ h))
  · exact .inl (.inr ⟨o, g _ _ h⟩)
  · exact .inr h
theorem st_new {K : PySem.W.Frag} {H H' : Hp} {b : Addr} {xs : List V} (g : Grow H H') (h : SqT K H b xs) : SqT K H' b xs := by
  rcases h with (h | ⟨o, h⟩) | h
  · exact .inl (.inl (g _ _ h))
  · exact .inl (.inr ⟨o, g _ _ h⟩)
  · exact .inr h
theorem sq_updN {K : PySem.W.Frag} {H : Hp} {q b : Addr} {o : HO} {xs : List V} (hq : H q = none) (h : SqL K H b xs) : SqL K (L2.upd H q o) b xs := sq_new (Grow.upd hq) h
theorem st_updN {K : PySem.W.Frag} {H : Hp} {q b : Addr} {o : HO} {xs : List V} (hq : H q = none) (h : SqT K H b xs) : SqT K (L2.upd H q o) b xs := st_new (Grow.upd hq) h
theorem size5 {n : Nat} (h : n ≤ 100000) : n ≤ sizeLine := Nat.le_trans h (by decide)
theorem size5l {n : Nat} (h : n < 100000) : n < sizeLine := Nat.lt_of_lt_of_le h (by decide)
/-! ### left-overs -/
theorem exB {k : Bool} {A : Bool → Prop} (q : A k) : ∃ k', V.bl k = V.bl k' ∧ A k' := ⟨k, rfl, q⟩
theorem lenOk {xs : List V} {B : Prop} (h : xs.length ≤ sizeLine) (q : B) : xs.length ≤ sizeLine ∧ B := ⟨h, q⟩
theorem allMade {H : Hp} {A : Addr → Addr → Prop} (q : ∀ x dx, H x = none → H dx = none → dx ≠ x → A x dx) : ∀ x dx, H x = none → H dx = none → dx ≠ x → A x dx := q
theorem allNew {H : Hp} {A : Addr → Prop} (q : ∀ p, H p = none → A p) : ∀ p, H p = none → A p := q

/-! ### the built-ins that no name of the module hides -/
structure Blt (mg : Str → Option Value) : Prop where
  len : mg "len" = none
  int : mg "int" = none
  abs : mg "abs" = none
  range : mg "range" = none
  tuple : mg "tuple" = none
  list : mg "list" = none
  set : mg "set" = none
  sorted : mg "sorted" = none
  all : mg "all" = none
  divmod : mg "divmod" = none
  isinstance : mg "isinstance" = none
  str : mg "str" = none
  repr : mg "repr" = none
  bool : mg "bool" = none
  min : mg "min" = none
  max : mg "max" = none
  zip : mg "zip" = none
  enumerate : mg "enumerate" = none
  sum : mg "sum" = none

/-! ### built-ins by their names -/
section
variable {X : Cx} {p pos : Pos} {e : Expr} {es : List Expr} {σ : St} {H : Hp} {Q : VK}
theorem e_b_len (B : Blt X.mg) (hg : Gl X "len") (hs : starEach (e :: es) X.env = (false, eval e X.env) :: starEach es X.env) (hpl : (backTo pos (starEach es X.env)).any (·.1) = false) (q : RA X (e :: es) σ H fun vs H1 => RC X (.builtin "len") vs H1 Q) :
    RE X (.Call (.Name "len" p) (e :: es) [] pos) σ H Q := e_callB hg B.len (by decide +kernel) (by decide) (by decide) hs hpl q
theorem e_b_int (B : Blt X.mg) (hg : Gl X "int") (hs : starEach (e :: es) X.env = (false, eval e X.env) :: starEach es X.env) (hpl : (backTo pos (starEach es X.env)).any (·.1) = false) (q : RA X (e :: es) σ H fun vs H1 => RC X (.type "int") vs H1 Q) :
    RE X (.Call (.Name "int" p) (e :: es) [] pos) σ H Q := e_callTy hg B.int (by decide +kernel) (by decide) (by decide) hs hpl q
theorem e_b_abs (B : Blt X.mg) (hg : Gl X "abs") (hs : starEach (e :: es) X.env = (false, eval e X.env) :: starEach es X.env) (hpl : (backTo pos (starEach es X.env)).any (·.1) = false) (q : RA X (e :: es) σ H fun vs H1 => RC X (.builtin "abs") vs H1 Q) :
    RE X (.Call (.Name "abs" p) (e :: es) [] pos) σ H Q := e_callB hg B.abs (by decide +kernel) (by decide) (by decide) hs hpl q
theorem e_b_tuple (B : Blt X.mg) (hg : Gl X "tuple") (hs : starEach (e :: es) X.env = (false, eval e X.env) :: starEach es X.env) (hpl : (backTo pos (starEach es X.env)).any (·.1) = false) (q : RA X (e :: es) σ H fun vs H1 => RC X (.type "tuple") vs H1 Q) :
    RE X (.Call (.Name "tuple" p) (e :: es) [] pos) σ H Q := e_callTy hg B.tuple (by decide +kernel) (by decide) (by decide) hs hpl q
theorem e_b_list (B : Blt X.mg) (hg : Gl X "list") (hs : starEach (e :: es) X.env = (false, eval e X.env) :: starEach es X.env) (hpl : (backTo pos (starEach es X.env)).any (·.1) = false) (q : RA X (e :: es) σ H fun vs H1 => RC X (.type "list") vs H1 Q) :
    RE X (.Call (.Name "list" p) (e :: es) [] pos) σ H Q := e_callTy hg B.list (by decide +kernel) (by decide) (by decide) hs hpl q
theorem e_b_set (B : Blt X.mg) (hg : Gl X "set") (hs : starEach (e :: es) X.env = (false, eval e X.env) :: starEach es X.env) (hpl : (backTo pos (starEach es X.env)).any (·.1) = false) (q : RA X (e :: es) σ H fun vs H1 => RC X (.type "set") vs H1 Q) :
    RE X (.Call (.Name "set" p) (e :: es) [] pos) σ H Q := e_callTy hg B.set (by decide +kernel) (by decide) (by decide) hs hpl q
theorem e_b_sorted (B : Blt X.mg) (hg : Gl X "sorted") (hs : starEach (e :: es) X.env = (false, eval e X.env) :: starEach es X.env) (hpl : (backTo pos (starEach es X.env)).any (·.1) = false) (q : RA X (e :: es) σ H fun vs H1 => RC X (.builtin "sorted") vs H1 Q) :
    RE X (.Call (.Name "sorted" p) (e :: es) [] pos) σ H Q := e_callB hg B.sorted (by decide +kernel) (by decide) (by decide) hs hpl q
theorem e_b_all (B : Blt X.mg) (hg : Gl X "all") (hs : starEach (e :: es) X.env = (false, eval e X.env) :: starEach es X.env) (hpl : (backTo pos (starEach es X.env)).any (·.1) = false) (q : RA X (e :: es) σ H fun vs H1 => RC X (.builtin "all") vs H1 Q) :
    RE X (.Call (.Name "all" p) (e :: es) [] pos) σ H Q := e_callB hg B.all (by decide +kernel) (by decide) (by decide) hs hpl q
theorem e_b_divmod (B : Blt X.mg) (hg : Gl X "divmod") (hs : starEach (e :: es) X.env = (false, eval e X.env) :: starEach es X.env) (hpl : (backTo pos (starEach es X.env)).any (·.1) = false) (q : RA X (e :: es) σ H fun vs H1 => RC X (.builtin "divmod") vs H1 Q) :
    RE X (.Call (.Name "divmod" p) (e :: es) [] pos) σ H Q := e_callB hg B.divmod (by decide +kernel) (by decide) (by decide) hs hpl q
theorem e_b_isinstance (B : Blt X.mg) (hg : Gl X "isinstance") (hs : starEach (e :: es) X.env = (false, eval e X.env) :: starEach es X.env) (hpl : (backTo pos (starEach es X.env)).any (·.1) = false) (q : RA X (e :: es) σ H fun vs H1 => RC X (.builtin "isinstance") vs H1 Q) :
    RE X (.Call (.Name "isinstance" p) (e :: es) [] pos) σ H Q := e_callB hg B.isinstance (by decide +kernel) (by decide) (by decide) hs hpl q
theorem e_b_str (B : Blt X.mg) (hg : Gl X "str") (hs : starEach (e :: es) X.env = (false, eval e X.env) :: starEach es X.env) (hpl : (backTo pos (starEach es X.env)).any (·.1) = false) (q : RA X (e :: es) σ H fun vs H1 => RC X (.type "str") vs H1 Q) :
    RE X (.Call (.Name "str" p) (e :: es) [] pos) σ H Q := e_callTy hg B.str (by decide +kernel) (by decide) (by decide) hs hpl q
theorem e_b_repr (B : Blt X.mg) (hg : Gl X "repr") (hs : starEach (e :: es) X.env = (false, eval e X.env) :: starEach es X.env) (hpl : (backTo pos (starEach es X.env)).any (·.1) = false) (q : RA X (e :: es) σ H fun vs H1 => RC X (.builtin "repr") vs H1 Q) :
    RE X (.Call (.Name "repr" p) (e :: es) [] pos) σ H Q := e_callB hg B.repr (by decide +kernel) (by decide) (by decide) hs hpl q
theorem e_b_bool (B : Blt X.mg) (hg : Gl X "bool") (hs : starEach (e :: es) X.env = (false, eval e X.env) :: starEach es X.env) (hpl : (backTo pos (starEach es X.env)).any (·.1) = false) (q : RA X (e :: es) σ H fun vs H1 => RC X (.type "bool") vs H1 Q) :
    RE X (.Call (.Name "bool" p) (e :: es) [] pos) σ H Q := e_callTy hg B.bool (by decide +kernel) (by decide) (by decide) hs hpl q
theorem e_b_min (B : Blt X.mg) (hg : Gl X "min") (hs : starEach (e :: es) X.env = (false, eval e X.env) :: starEach es X.env) (hpl : (backTo pos (starEach es X.env)).any (·.1) = false) (q : RA X (e :: es) σ H fun vs H1 => RC X (.builtin "min") vs H1 Q) :
    RE X (.Call (.Name "min" p) (e :: es) [] pos) σ H Q := e_callB hg B.min (by decide +kernel) (by decide) (by decide) hs hpl q
theorem e_b_max (B : Blt X.mg) (hg : Gl X "max") (hs : starEach (e :: es) X.env = (false, eval e X.env) :: starEach es X.env) (hpl : (backTo pos (starEach es X.env)).any (·.1) = false) (q : RA X (e :: es) σ H fun vs H1 => RC X (.builtin "max") vs H1 Q) :
    RE X (.Call (.Name "max" p) (e :: es) [] pos) σ H Q := e_callB hg B.max (by decide +kernel) (by decide) (by decide) hs hpl q
theorem e_b_sum (B : Blt X.mg) (hg : Gl X "sum") (hs : starEach (e :: es) X.env = (false, eval e X.env) :: starEach es X.env) (hpl : (backTo pos (starEach es X.env)).any (·.1) = false) (q : RA X (e :: es) σ H fun vs H1 => RC X (.builtin "sum") vs H1 Q) :
    RE X (.Call (.Name "sum" p) (e :: es) [] pos) σ H Q := e_callB hg B.sum (by decide +kernel) (by decide) (by decide) hs hpl q
end
section
variable {X : Cx} {o : Expr} {apos pos : Pos} {σ : St} {H : Hp} {Q : VK}
theorem e_bits (hbase : attributeBase o "bit_length" X.env (eval o X.env) = eval o X.env) (hline : (apos.endLine == pos.line) = true) (q : RE X o σ H fun x H1 => ∃ i, x = .int i ∧ Q (.int (Builtin.Int.intBits i : Nat)) H1) : RE X (.Call (.Attribute o "bit_length" apos) [] [] pos) σ H Q := re_of (pe_bits (re o) hbase hline) q
end
/-! ### a def of the text, to be called -/
structure Callable (P : Program) (w : World) (K : PySem.W.Frag) (mg : Str → Option Value) (base : Heap) (x : Str) (k : Nat) (ps : List Str) (sp : Sp) : Prop where
  ex : ∃ (f : Addr) (fd : FuncData), FnOk P w K mg base CX0 k f fd ps sp ∧ mg x = some (.ref f) ∧ PySem.W.keepIn K (.ref f) = true ∧ Binds K fd ps []
section
variable {X : Cx} {x : Str} {p pos : Pos} {e : Expr} {es : List Expr} {σ : St} {H : Hp} {Q : VK} {k : Nat} {ps : List Str} {sp : Sp}
theorem e_call (F : Callable X.prog X.w X.K X.mg X.base x k ps sp) (hr : Room k X.A) (hg : Gl X x) (hd : (x == ("__debug__" : Str)) = false) (he : starEach (e :: es) X.env = (false, eval e X.env) :: starEach es X.env) (hpl : (backTo pos (starEach es X.env)).any (·.1) = false)
    (q : RA X (e :: es) σ H fun vs H1 => sp vs H1 Q E0) : RE X (.Call (.Name x p) (e :: es) [] pos) σ H Q := by
  obtain ⟨f, fd, F, hm, hk, hb⟩ := F.ex
  refine re_of (pe_call F hr hg hm hk hb .nil pass0 (ra _) hd he hpl) ?_
  show RA X (e :: es) σ H fun vs H1 => sp (vs ++ []) H1 Q E0
  have e1 : (fun (vs : List V) (H1 : Hp) => sp (vs ++ []) H1 Q E0) = fun vs H1 => sp vs H1 Q E0 := by
    funext vs H1
    rw [List.append_nil]
  rw [e1]
  exact q
end
end Sx

end
section -- Sy
set_option maxRecDepth 100000
set_option maxHeartbeats 4000000
namespace Sx
open PySem PySem.Spec L2
open PyProof.Rows hiding St

section
variable {X : Cx} {e a b c o l : Expr} {es : List Expr} {st : Stmt} {body : List Stmt} {σ : St} {H : Hp} {Q : VK} {pos p : Pos} {x : Str} {v w : V} {nx bk ct : St → Hp → Prop} {rt' : VK} {tg : Expr}

/-! ### loops -/
def ForJ (X : Cx) (tg : Expr) (body : List Stmt) (nx : St → Hp → Prop) (rt' : VK) (σ : St) (J : It) (H1 : Hp) : Prop :=
  ∃ W : Nat → Nat → St → Hp → Prop, (∃ m, W 0 m σ H1) ∧ ∀ i m σ H, W i m σ H →
  (J.stop i H ∧ nx σ H) ∨ (J.go i H ∧ ∃ N : St → Hp → Prop, (∀ σ' H', N σ' H' → ∃ m', m' < m ∧ W (i + 1) m' σ' H') ∧ ∀ x H', J.yld i H x H' → RG X tg x σ H' fun σ2 H2 => RSs X body ⟨N, rt', nx, N⟩ σ2 H2)
theorem s_forI {wi : TI} (hs : ∀ x, foldedSetIterable l X.env x = pure x) (hp : PassesOwn (model X.prog X.w) X.A X.env X.xe) (hc : X.calm = true) (hi : PI X tg l wi) (q : wi σ H fun J H1 => ForJ X tg body nx rt' σ J H1) : RS X (.For tg l body [] pos) ⟨nx, rt', bk, ct⟩ σ H :=
  rs_of (ps_for hp hc hi (rg tg) (rss body) hs) q
def ForL (X : Cx) (tg : Expr) (body : List Stmt) (nx : St → Hp → Prop) (rt' : VK) (σ : St) (x : V) (H1 : Hp) : Prop := ∃ a, x = .ref a ∧ (∃ xs, SqL X.K H1 a xs) ∧ ForJ X tg body nx rt' σ (Itl X.K a) H1
def ForT (X : Cx) (tg : Expr) (body : List Stmt) (nx : St → Hp → Prop) (rt' : VK) (σ : St) (x : V) (H1 : Hp) : Prop := ∃ a, x = .ref a ∧ (∃ xs, SqT X.K H1 a xs) ∧ ForJ X tg body nx rt' σ (Itt X.K a) H1
def ForR1 (X : Cx) (tg : Expr) (body : List Stmt) (nx : St → Hp → Prop) (rt' : VK) (σ : St) (vs : List V) (H1 : Hp) : Prop := ∃ j : Int, vs = [.int j] ∧ -(2 ^ 62) ≤ j ∧ j < 2 ^ 62 ∧ ForJ X tg body nx rt' σ (Itr 0 j.toNat) H1
def ForR2 (X : Cx) (tg : Expr) (body : List Stmt) (nx : St → Hp → Prop) (rt' : VK) (σ : St) (vs : List V) (H1 : Hp) : Prop := ∃ i j : Int, vs = [.int i, .int j] ∧ (-(2 ^ 62) ≤ i ∧ i < 2 ^ 62 ∧ -(2 ^ 62) ≤ j ∧ j < 2 ^ 62) ∧ ForJ X tg body nx rt' σ (Itr i (j - i).toNat) H1
theorem s_forL (hf : ∀ x, foldedSetIterable l X.env x = pure x) (hp : PassesOwn (model X.prog X.w) X.A X.env X.xe) (hc : X.calm = true) (q : RE X l σ H fun x H1 => ForL X tg body nx rt' σ x H1) : RS X (.For tg l body [] pos) ⟨nx, rt', bk, ct⟩ σ H := s_forI hf hp hc (pi_list (re l)) q
theorem s_forT (hf : ∀ x, foldedSetIterable l X.env x = pure x) (hp : PassesOwn (model X.prog X.w) X.A X.env X.xe) (hc : X.calm = true) (q : RE X l σ H fun x H1 => ForT X tg body nx rt' σ x H1) : RS X (.For tg l body [] pos) ⟨nx, rt', bk, ct⟩ σ H := s_forI hf hp hc (pi_tup (re l)) q
theorem s_forR1 {p' : Pos} (hp : PassesOwn (model X.prog X.w) X.A X.env X.xe) (hc : X.calm = true) (B : Blt X.mg) (hg : Gl X "range") (hs : starEach [a] X.env = [(false, eval a X.env)]) (q : RA X [a] σ H fun x H1 => ForR1 X tg body nx rt' σ x H1) : RS X (.For tg (.Call (.Name "range" p) [a] [] p') body [] pos) ⟨nx, rt', bk, ct⟩ σ H :=
  s_forI (fun _ => rfl) hp hc (pi_range1 hg B.range (ra [a]) hs) q
theorem s_forR2 {p' : Pos} (hp : PassesOwn (model X.prog X.w) X.A X.env X.xe) (hc : X.calm = true) (B : Blt X.mg) (hg : Gl X "range") (hs : starEach [a, b] X.env = [(false, eval a X.env), (false, eval b X.env)]) (hs2 : starEach [b] X.env = [(false, eval b X.env)])
    (q : RA X [a, b] σ H fun x H1 => ForR2 X tg body nx rt' σ x H1) : RS X (.For tg (.Call (.Name "range" p) [a, b] [] p') body [] pos) ⟨nx, rt', bk, ct⟩ σ H :=
  s_forI (fun _ => rfl) hp hc (pi_range2 hg B.range (ra [a, b]) hs hs2) q
theorem forL {a : Addr} {xs : List V} (h : SqL X.K H a xs) (Pv : Nat → St → Hp → Prop) (h0 : Pv 0 σ H) (hl : ∀ i σ H, i ≤ xs.length → Pv i σ H → SqL X.K H a xs)
    (hs : ∀ i x σ H, xs[i]? = some x → Pv i σ H → RG X tg x σ H fun σ2 H2 => RSs X body ⟨Pv (i + 1), rt', nx, Pv (i + 1)⟩ σ2 H2) (hd : ∀ σ H, Pv xs.length σ H → nx σ H) : ForL X tg body nx rt' σ (.ref a) H :=
  ⟨a, rfl, ⟨xs, h⟩, for_list (D := ⟨nx, rt', nx, nx⟩) (g := RG X tg) (tb := RSs X body) Pv h0 hl hs hd⟩
theorem forT {a : Addr} {xs : List V} (h : SqT X.K H a xs) (Pv : Nat → St → Hp → Prop) (h0 : Pv 0 σ H) (hl : ∀ i σ H, i ≤ xs.length → Pv i σ H → SqT X.K H a xs)
    (hs : ∀ i x σ H, xs[i]? = some x → Pv i σ H → RG X tg x σ H fun σ2 H2 => RSs X body ⟨Pv (i + 1), rt', nx, Pv (i + 1)⟩ σ2 H2) (hd : ∀ σ H, Pv xs.length σ H → nx σ H) : ForT X tg body nx rt' σ (.ref a) H :=
  ⟨a, rfl, ⟨xs, h⟩, for_tup (D := ⟨nx, rt', nx, nx⟩) (g := RG X tg) (tb := RSs X body) Pv h0 hl hs hd⟩
theorem forR1 {j : Int} (hj : -(2 ^ 62) ≤ j ∧ j < 2 ^ 62) (Pv : Nat → St → Hp → Prop) (h0 : Pv 0 σ H)
    (hs : ∀ (i : Nat) σ H, (i : Int) < j → Pv i σ H → RG X tg (.int (i : Int)) σ H fun σ2 H2 => RSs X body ⟨Pv (i + 1), rt', nx, Pv (i + 1)⟩ σ2 H2) (hd : ∀ σ H, Pv j.toNat σ H → nx σ H) : ForR1 X tg body nx rt' σ [.int j] H :=
  ⟨j, rfl, hj.1, hj.2, for_range (lo := 0) (n := j.toNat) (D := ⟨nx, rt', nx, nx⟩) (g := RG X tg) (tb := RSs X body) Pv h0 (fun i σ H hi p => by
    have e : (0 : Int) + (i : Int) = (i : Int) := Int.zero_add _
    rw [e]
    exact hs i σ H (by omega) p) hd⟩
theorem forR2 {lo j : Int} (hj : -(2 ^ 62) ≤ lo ∧ lo < 2 ^ 62 ∧ -(2 ^ 62) ≤ j ∧ j < 2 ^ 62) (Pv : Nat → St → Hp → Prop) (h0 : Pv 0 σ H)
    (hs : ∀ (i : Nat) σ H, lo + (i : Int) < j → Pv i σ H → RG X tg (.int (lo + (i : Int))) σ H fun σ2 H2 => RSs X body ⟨Pv (i + 1), rt', nx, Pv (i + 1)⟩ σ2 H2) (hd : ∀ σ H, Pv (j - lo).toNat σ H → nx σ H) : ForR2 X tg body nx rt' σ [.int lo, .int j] H :=
  ⟨lo, j, rfl, hj, for_range (lo := lo) (n := (j - lo).toNat) (D := ⟨nx, rt', nx, nx⟩) (g := RG X tg) (tb := RSs X body) Pv h0 (fun i σ H hi p => hs i σ H (by omega) p) hd⟩
theorem s_while {W : St → Hp → Prop} (μ : St → Hp → Nat) (hp : PassesOwn (model X.prog X.w) X.A X.env X.xe) (h0 : W σ H)
    (hs : ∀ σ H, W σ H → RT X c σ H fun b H1 => if b = true then RSs X body ⟨fun σ' H' => W σ' H' ∧ μ σ' H' < μ σ H, rt', nx, fun σ' H' => W σ' H' ∧ μ σ' H' < μ σ H⟩ σ H1 else nx σ H1) : RS X (.While c body [] pos) ⟨nx, rt', bk, ct⟩ σ H := by
  refine rs_of (ps_while hp (rt c) (rss body)) ?_
  refine ⟨fun m σ H => m = μ σ H ∧ W σ H, ⟨_, rfl, h0⟩, ?_⟩
  rintro m σ H ⟨rfl, hw⟩
  intro pins s I
  refine thn (hs σ H hw pins s I) fun b s' ⟨H1, I1, q⟩ => ⟨H1, I1, ?_⟩
  cases b with
  | true => exact ⟨_, fun σ' H' ⟨p', l⟩ => ⟨_, l, rfl, p'⟩, q⟩
  | false => exact q

/-! ### list comprehensions, one clause, a name for a target -/
def blkN (N : List Str) (sc scope : Scope) (ns : List Str) : Bool :=
  (match scope.kind with | .function => true | _ => false) && (scope.names.all fun y => decide (scope.names.lookup y.1 = some y.2)) && (ns.all fun x => N.contains x) &&
    (scope.names.all fun y => match y.2 with
      | .free => (match sc.names.lookup y.1 with | some .cell => true | some .free => true | _ => false)
      | .local => decide (y.1 ∈ ns) || decide (y.1 ∉ N)
      | .cell => decide (y.1 ∈ ns) || decide (y.1 ∉ N)
      | _ => true)
theorem blkOk_of {N : List Str} {sc scope : Scope} {own : List (Str × Nat)} (ho : ∀ p ∈ own, N[p.2]? = some p.1) (h : blkN N sc scope (own.map (·.1)) = true) : BlkOk N sc scope own := by
  refine blkOk_by ?_
  unfold blkN at h
  unfold blkC
  simp only [Bool.and_eq_true] at h ⊢
  refine ⟨⟨h.1.1, ?_⟩, h.2⟩
  simp only [List.all_eq_true, decide_eq_true_eq]
  exact ho
/-- a turn of a comprehension, in the block's own context -/
def LcTest (X : Cx) (scope : Scope) (ifs : List Expr) (σ : St) (H : Hp) (k : Bool → Hp → Prop) : Prop :=
  match ifs with
  | [] => k true H
  | [c] => ∀ (s : Shared) (H0 : Hp) (C : Addr) (cl : List (Str × Addr)) (fp : List Addr), RT (X.blk s H0 scope (compEnvC scope cl C X.env) fp) c σ H k
  | _ => False
def LcElt (X : Cx) (scope : Scope) (elt : Expr) (σ : St) (H : Hp) (Q : VK) : Prop :=
  ∀ (s : Shared) (H0 : Hp) (C : Addr) (cl : List (Str × Addr)) (fp : List Addr), RE (X.blk s H0 scope (compEnvC scope cl C X.env) fp) elt σ H Q
def LcTg (X : Cx) (scope : Scope) (tg : Expr) : TG := fun v σ H Q => ∀ (s : Shared) (H0 : Hp) (C : Addr) (cl : List (Str × Addr)) (fp : List Addr), RG (X.blk s H0 scope (compEnvC scope cl C X.env) fp) tg v σ H Q
theorem pts_all {X : Cx} {scope : Scope} {ifs : List Expr} (hl : ifs.length ≤ 1) (s : Shared) (H0 : Hp) (C : Addr) (cl : List (Str × Addr)) (fp : List Addr) :
    PTs (X.blk s H0 scope (compEnvC scope cl C X.env) fp) ifs (fun σ H k => LcTest X scope ifs σ H k) := by
  match ifs, hl with
  | [], _ => exact pts_nil
  | [c], _ =>
    refine pts_one ⟨fun pins s' σ H Q I h => h s H0 C cl fp pins s' I⟩
/-- the steps: P n acc H: behind n items, acc made -/
def LcStep (X : Cx) (scope : Scope) (ifs : List Expr) (elt : Expr) (D : Addr) (P : List V → Hp → Prop) (σ : St) (H : Hp) : Prop :=
  LcTest X scope ifs σ H fun b H3 => if b = true then LcElt X scope elt σ H3 fun y H4 => ∃ acc, H4 D = some (.lst acc) ∧ acc.length < sizeLine ∧ P (acc ++ [y]) (upd H4 D (.lst (acc ++ [y]))) else ∃ acc, H3 D = some (.lst acc) ∧ P acc H3
def LcJ (X : Cx) (scope : Scope) (tg : Expr) (ifs : List Expr) (elt : Expr) (σ : St) (vs : List Nat) (J : It) (H1 : Hp) (Q : VK) : Prop :=
  tLc (fun _ H R => R J H) (LcTg X scope tg) (fun σ H k => LcTest X scope ifs σ H k) (fun σ H Q => LcElt X scope elt σ H Q) vs σ H1 Q
theorem e_lcI {iter elt : Expr} {ifs : List Expr} {scope : Scope} {own : List (Str × Nat)} {wi : TI} (hc : X.calm = true) (hN : X.N.Nodup) (hi : PI X tg iter wi) (ok : BlkOk X.N X.env.scope scope own) (hl : ifs.length ≤ 1)
    (hs : ∀ x, foldedSetIterable iter X.env x = pure x) (q : wi σ H fun J H1 => LcJ X scope tg ifs elt σ (own.map (·.2)) J H1 Q) : RE X (.ListComp elt [⟨tg, iter, ifs, 0⟩] scope pos) σ H Q := by
  refine re_of (pe_lc (tg := tg) (g := LcTg X scope tg) (tt := fun σ H k => LcTest X scope ifs σ H k) (te := fun σ H Q => LcElt X scope elt σ H Q) hc hN hi ok ?_ ?_ ?_ hs) q
  · exact fun s H0 C cl fp => ⟨fun pins s' σ H v u Q I r h => h s H0 C cl fp pins s' u I r⟩
  · exact fun s H0 C cl fp => pts_all hl s H0 C cl fp
  · exact fun s H0 C cl fp => ⟨fun pins s' σ H Q I h => h s H0 C cl fp pins s' I⟩
/-- stored at once in a local name -/
theorem s_setLcI {y : Str} {py spos : Pos} {iter elt : Expr} {ifs : List Expr} {scope : Scope} {own : List (Str × Nat)} {wi : TI} (hc : X.calm = true) (hN : X.N.Nodup) (hy : X.N.contains y = true) (hyl : X.env.scope.names.lookup y = some .local)
    (hsw : swapsWith (.ListComp elt [⟨tg, iter, ifs, 0⟩] scope pos) (some (.Name y py)) spos.line X.env = pure true) (hi : PI X tg iter wi) (ok : BlkOk X.N X.env.scope scope own) (hl : ifs.length ≤ 1)
    (hs : ∀ x, foldedSetIterable iter X.env x = pure x) (q : wi σ H fun J H1 => LcJ X scope tg ifs elt σ (own.map (·.2)) J H1 fun v H2 => nx (setN X.N σ y v) H2) : RS X (.Assign [.Name y py] (.ListComp elt [⟨tg, iter, ifs, 0⟩] scope pos) spos) ⟨nx, rt', bk, ct⟩ σ H := by
  obtain ⟨i, h⟩ := idx_of hy
  refine rs_of (ps_setLc (i := i) (tg := tg) (g := LcTg X scope tg) (tt := fun σ H k => LcTest X scope ifs σ H k) (te := fun σ H Q => LcElt X scope elt σ H Q) hc hN h hyl hsw hi ok ?_ ?_ ?_ hs) ?_
  · exact fun s H0 C cl fp => ⟨fun pins s' σ H v u Q I r h => h s H0 C cl fp pins s' u I r⟩
  · exact fun s H0 C cl fp => pts_all hl s H0 C cl fp
  · exact fun s H0 C cl fp => ⟨fun pins s' σ H Q I h => h s H0 C cl fp pins s' I⟩
  · have e1 : (fun v H2 => nx (setN X.N σ y v) H2) = fun v H2 => nx (σ.set i (some v)) H2 := by
      funext v H2
      rw [setN_eq h hN]
    rw [e1] at q
    exact q
theorem wipe1 {σ : St} {i : Nat} {v : V} : wipe ((wipe σ [i]).set i (some v)) [i] = wipe σ [i] := by
  show ((σ.set i none).set i (some v)).set i none = σ.set i none
  rw [List.set_set, List.set_set]
theorem set1 {σ : St} {i : Nat} {v : V} : (wipe σ [i]).set i (some v) = σ.set i (some v) := by
  show (σ.set i none).set i (some v) = σ.set i (some v)
  rw [List.set_set]

/-- one name k (slot i) -/
theorem lc_name_tg {scope : Scope} {k : Str} {pk : Pos} {i : Nat} {Qg : St → Hp → Prop} (hN : X.N.Nodup) (hk : X.N[i]? = some k) (hsc : ∀ (s : Shared) (H0 : Hp) (C : Addr) (cl : List (Str × Addr)) (fp : List Addr), Loc (X.blk s H0 scope (compEnvC scope cl C X.env) fp).env.scope k)
    (hfn : ∀ (s : Shared) (H0 : Hp) (C : Addr) (cl : List (Str × Addr)) (fp : List Addr), (X.blk s H0 scope (compEnvC scope cl C X.env) fp).fn k = true ∨ (X.blk s H0 scope (compEnvC scope cl C X.env) fp).env.scope.names.lookup k = some .local)
    (q : Qg (σ.set i (some v)) H) : LcTg X scope (.Name k pk) v σ H Qg := fun s H0 C cl fp => rg_of (pg_name (i := i) hN hk (hsc s H0 C cl fp) (hfn s H0 C cl fp)) q
/-- the turns of a comprehension over a name k, by an invariant over the turn, what is made, the heap -/
structure LcName (X : Cx) (scope : Scope) (k : Str) (i : Nat) : Prop where
  hk : X.N[i]? = some k
  loc : ∀ (s : Shared) (H0 : Hp) (C : Addr) (cl : List (Str × Addr)) (fp : List Addr), Loc (X.blk s H0 scope (compEnvC scope cl C X.env) fp).env.scope k
  fn : ∀ (s : Shared) (H0 : Hp) (C : Addr) (cl : List (Str × Addr)) (fp : List Addr), (X.blk s H0 scope (compEnvC scope cl C X.env) fp).fn k = true ∨ (X.blk s H0 scope (compEnvC scope cl C X.env) fp).env.scope.names.lookup k = some .local
def LcL (X : Cx) (scope : Scope) (tg : Expr) (ifs : List Expr) (elt : Expr) (σ : St) (vs : List Nat) (Q : VK) (x : V) (H1 : Hp) : Prop := ∃ a, x = .ref a ∧ (∃ xs, SqL X.K H1 a xs) ∧ LcJ X scope tg ifs elt σ vs (Itl X.K a) H1 Q
def LcT (X : Cx) (scope : Scope) (tg : Expr) (ifs : List Expr) (elt : Expr) (σ : St) (vs : List Nat) (Q : VK) (x : V) (H1 : Hp) : Prop := ∃ a, x = .ref a ∧ (∃ xs, SqT X.K H1 a xs) ∧ LcJ X scope tg ifs elt σ vs (Itt X.K a) H1 Q
def LcR1 (X : Cx) (scope : Scope) (tg : Expr) (ifs : List Expr) (elt : Expr) (σ : St) (vs : List Nat) (Q : VK) (xs : List V) (H1 : Hp) : Prop := ∃ j : Int, xs = [.int j] ∧ -(2 ^ 62) ≤ j ∧ j < 2 ^ 62 ∧ LcJ X scope tg ifs elt σ vs (Itr 0 j.toNat) H1 Q
def LcR2 (X : Cx) (scope : Scope) (tg : Expr) (ifs : List Expr) (elt : Expr) (σ : St) (vs : List Nat) (Q : VK) (xs : List V) (H1 : Hp) : Prop := ∃ i j : Int, xs = [.int i, .int j] ∧ (-(2 ^ 62) ≤ i ∧ i < 2 ^ 62 ∧ -(2 ^ 62) ≤ j ∧ j < 2 ^ 62) ∧ LcJ X scope tg ifs elt σ vs (Itr i (j - i).toNat) H1 Q
/-- what a turn asks -/
def LcTurn (X : Cx) (scope : Scope) (ifs : List Expr) (elt : Expr) (D : Addr) (P : List V → Hp → Prop) (σ : St) (H : Hp) : Prop := LcStep X scope ifs elt D P σ H
theorem lcJ_of {scope : Scope} {k : Str} {pk : Pos} {i : Nat} {ifs : List Expr} {elt : Expr} {J : It} {H1 : Hp} (hN : X.N.Nodup) (L : LcName X scope k i) (n : Nat) (item : Nat → V → Hp → Prop)
    (P : Addr → Nat → List V → Hp → Prop) (h0 : ∀ D, H1 D = none → P D 0 [] (upd H1 D (.lst [])))
    (hJ : ∀ D, H1 D = none → ∀ m acc H, P D m acc H → H D = some (.lst acc) → m ≤ n → (m = n → J.stop m H) ∧ (m < n → J.go m H ∧ ∀ x H', J.yld m H x H' → H' = H ∧ item m x H))
    (hs : ∀ D m acc x H, H1 D = none → m < n → P D m acc H → H D = some (.lst acc) → item m x H → LcTurn X scope ifs elt D (P D (m + 1)) (σ.set i (some x)) H)
    (hd : ∀ D acc H, H1 D = none → P D n acc H → H D = some (.lst acc) → Q (.ref D) H) : LcJ X scope (.Name k pk) ifs elt σ [i] J H1 Q := by
  intro D hD
  refine ⟨fun m z H => z = n - m ∧ m ≤ n ∧ ∃ acc, H D = some (.lst acc) ∧ P D m acc H, ⟨n, by simp, Nat.zero_le _, [], upd_same, h0 D hD⟩, ?_⟩
  rintro m z H ⟨rfl, hm, acc, ha, hp⟩
  obtain ⟨j1, j2⟩ := hJ D hD m acc H hp ha hm
  by_cases hlt : m < n
  · obtain ⟨g, y⟩ := j2 hlt
    refine .inr ⟨g, fun H => ∃ acc, H D = some (.lst acc) ∧ P D (m + 1) acc H, fun H' h' => ⟨n - (m + 1), by omega, rfl, hlt, h'⟩, fun x H' hy => ?_⟩
    obtain ⟨rfl, hi⟩ := y x H' hy
    refine lc_name_tg hN L.hk L.loc L.fn ⟨wipe1, ?_⟩
    rw [set1]
    have q := hs D m acc x H' hD hlt hp ha hi
    unfold LcTurn LcStep at q
    match ifs, q with
    | [], q => 
      show LcElt X scope elt _ _ _
      intro s H0 C cl fp pins s' I
      refine thn (q s H0 C cl fp pins s' I) fun u s2 ⟨v, H2, I2, r, acc', a1, a2, a3⟩ => ⟨v, H2, I2, r, acc', a1, a2, ⟨_, upd_same, a3⟩⟩
    | [c], q =>
      intro s H0 C cl fp pins s' I
      refine thn (q s H0 C cl fp pins s' I) fun b s2 ⟨H2, I2, a1⟩ => ⟨H2, I2, ?_⟩
      cases b with
      | false => exact a1
      | true =>
        have a1 : LcElt X scope elt _ H2 _ := a1
        show LcElt X scope elt _ H2 _
        intro s H0 C cl fp pins s' I
        refine thn (a1 s H0 C cl fp pins s' I) fun u s2 ⟨v, H2, I2, r, acc', a1, a2, a3⟩ => ⟨v, H2, I2, r, acc', a1, a2, ⟨_, upd_same, a3⟩⟩
  · have e : m = n := by omega
    subst e
    exact .inl ⟨j1 rfl, hd D acc H hD hp ha⟩
theorem lcL {scope : Scope} {k : Str} {pk : Pos} {i : Nat} {ifs : List Expr} {elt : Expr} {a : Addr} {xs : List V} (hN : X.N.Nodup) (L : LcName X scope k i) (hx : SqL X.K H a xs)
    (P : Addr → Nat → List V → Hp → Prop) (h0 : ∀ D, H D = none → P D 0 [] (upd H D (.lst [])))
    (hl : ∀ D m acc H', H D = none → P D m acc H' → SqL X.K H' a xs)
    (hs : ∀ D m acc x H', H D = none → xs[m]? = some x → P D m acc H' → H' D = some (.lst acc) → LcTurn X scope ifs elt D (P D (m + 1)) (setN X.N σ k x) H')
    (hd : ∀ D acc H', H D = none → P D xs.length acc H' → H' D = some (.lst acc) → Q (.ref D) H') : LcL X scope (.Name k pk) ifs elt σ [i] Q (.ref a) H := by
  refine ⟨a, rfl, ⟨xs, hx⟩, lcJ_of hN L xs.length (fun m x _ => xs[m]? = some x) P h0 (fun D hD m acc H' p _ hm => ?_) (fun D m acc x H' hD _ p e hi => setN_eq L.hk hN ▸ hs D m acc x H' hD hi p e) hd⟩
  have q := hl D m acc H' hD p
  refine ⟨fun e => ⟨xs, q, by omega⟩, fun h => ⟨⟨xs, xs[m], q, by simp [h]⟩, fun x H2 hy => ?_⟩⟩
  obtain ⟨rfl, f⟩ := hy
  exact ⟨rfl, f _ q⟩
theorem lcT {scope : Scope} {k : Str} {pk : Pos} {i : Nat} {ifs : List Expr} {elt : Expr} {a : Addr} {xs : List V} (hN : X.N.Nodup) (L : LcName X scope k i) (hx : SqT X.K H a xs)
    (P : Addr → Nat → List V → Hp → Prop) (h0 : ∀ D, H D = none → P D 0 [] (upd H D (.lst [])))
    (hl : ∀ D m acc H', H D = none → P D m acc H' → SqT X.K H' a xs)
    (hs : ∀ D m acc x H', H D = none → xs[m]? = some x → P D m acc H' → H' D = some (.lst acc) → LcTurn X scope ifs elt D (P D (m + 1)) (setN X.N σ k x) H')
    (hd : ∀ D acc H', H D = none → P D xs.length acc H' → H' D = some (.lst acc) → Q (.ref D) H') : LcT X scope (.Name k pk) ifs elt σ [i] Q (.ref a) H := by
  refine ⟨a, rfl, ⟨xs, hx⟩, lcJ_of hN L xs.length (fun m x _ => xs[m]? = some x) P h0 (fun D hD m acc H' p _ hm => ?_) (fun D m acc x H' hD _ p e hi => setN_eq L.hk hN ▸ hs D m acc x H' hD hi p e) hd⟩
  have q := hl D m acc H' hD p
  refine ⟨fun e => ⟨xs, q, by omega⟩, fun h => ⟨⟨xs, xs[m], q, by simp [h]⟩, fun x H2 hy => ?_⟩⟩
  obtain ⟨rfl, f⟩ := hy
  exact ⟨rfl, f _ q⟩
theorem lcR1 {scope : Scope} {k : Str} {pk : Pos} {i : Nat} {ifs : List Expr} {elt : Expr} {j : Int} (hN : X.N.Nodup) (L : LcName X scope k i) (hj : -(2 ^ 62) ≤ j ∧ j < 2 ^ 62)
    (P : Addr → Nat → List V → Hp → Prop) (h0 : ∀ D, H D = none → P D 0 [] (upd H D (.lst [])))
    (hs : ∀ D (m : Nat) acc H', H D = none → (m : Int) < j → P D m acc H' → H' D = some (.lst acc) → LcTurn X scope ifs elt D (P D (m + 1)) (setN X.N σ k (.int (m : Int))) H')
    (hd : ∀ D acc H', H D = none → P D j.toNat acc H' → H' D = some (.lst acc) → Q (.ref D) H') : LcR1 X scope (.Name k pk) ifs elt σ [i] Q [.int j] H := by
  refine ⟨j, rfl, hj.1, hj.2, lcJ_of hN L j.toNat (fun m x _ => x = .int (m : Int)) P h0 (fun D hD m acc H' p _ hm => ?_) (fun D m acc x H' hD hm p e hi => ?_) hd⟩
  · refine ⟨fun e => Nat.le_of_eq e.symm, fun h => ⟨h, fun x H2 hy => ?_⟩⟩
    obtain ⟨rfl, f⟩ := hy
    exact ⟨rfl, by rw [f, Int.zero_add]⟩
  · subst hi
    exact setN_eq L.hk hN ▸ hs D m acc H' hD (by omega) p e
theorem lcR2 {scope : Scope} {k : Str} {pk : Pos} {i : Nat} {ifs : List Expr} {elt : Expr} {lo j : Int} (hN : X.N.Nodup) (L : LcName X scope k i) (hj : -(2 ^ 62) ≤ lo ∧ lo < 2 ^ 62 ∧ -(2 ^ 62) ≤ j ∧ j < 2 ^ 62)
    (P : Addr → Nat → List V → Hp → Prop) (h0 : ∀ D, H D = none → P D 0 [] (upd H D (.lst [])))
    (hs : ∀ D (m : Nat) acc H', H D = none → lo + (m : Int) < j → P D m acc H' → H' D = some (.lst acc) → LcTurn X scope ifs elt D (P D (m + 1)) (setN X.N σ k (.int (lo + (m : Int)))) H')
    (hd : ∀ D acc H', H D = none → P D (j - lo).toNat acc H' → H' D = some (.lst acc) → Q (.ref D) H') : LcR2 X scope (.Name k pk) ifs elt σ [i] Q [.int lo, .int j] H := by
  refine ⟨lo, j, rfl, hj, lcJ_of hN L (j - lo).toNat (fun m x _ => x = .int (lo + (m : Int))) P h0 (fun D hD m acc H' p _ hm => ?_) (fun D m acc x H' hD hm p e hi => ?_) hd⟩
  · refine ⟨fun e => Nat.le_of_eq e.symm, fun h => ⟨h, fun x H2 hy => ?_⟩⟩
    obtain ⟨rfl, f⟩ := hy
    exact ⟨rfl, f⟩
  · subst hi
    exact setN_eq L.hk hN ▸ hs D m acc H' hD (by omega) p e
theorem own1 {N : List Str} {k : Str} {i : Nat} (h : N[i]? = some k) : ∀ p ∈ [(k, i)], N[p.2]? = some p.1 := by
  intro p hp
  rw [List.mem_singleton] at hp
  subst hp
  exact h
theorem e_lcL {iter elt : Expr} {ifs : List Expr} {scope : Scope} {k : Str} {i : Nat} {pk : Pos} (hk : X.N[i]? = some k) (hc : X.calm = true) (hN : X.N.Nodup) (ok : blkN X.N X.env.scope scope [k] = true) (hl : ifs.length ≤ 1)
    (hs : ∀ x, foldedSetIterable iter X.env x = pure x) (q : RE X iter σ H fun x H1 => LcL X scope (.Name k pk) ifs elt σ [i] Q x H1) : RE X (.ListComp elt [⟨.Name k pk, iter, ifs, 0⟩] scope pos) σ H Q :=
  e_lcI (own := [(k, i)]) hc hN (pi_list (re iter)) (blkOk_of (own1 hk) ok) hl hs q
theorem e_lcT {iter elt : Expr} {ifs : List Expr} {scope : Scope} {k : Str} {i : Nat} {pk : Pos} (hk : X.N[i]? = some k) (hc : X.calm = true) (hN : X.N.Nodup) (ok : blkN X.N X.env.scope scope [k] = true) (hl : ifs.length ≤ 1)
    (hs : ∀ x, foldedSetIterable iter X.env x = pure x) (q : RE X iter σ H fun x H1 => LcT X scope (.Name k pk) ifs elt σ [i] Q x H1) : RE X (.ListComp elt [⟨.Name k pk, iter, ifs, 0⟩] scope pos) σ H Q :=
  e_lcI (own := [(k, i)]) hc hN (pi_tup (re iter)) (blkOk_of (own1 hk) ok) hl hs q
theorem e_lcR1 {elt : Expr} {ifs : List Expr} {scope : Scope} {k : Str} {i : Nat} {pk p' : Pos} (hk : X.N[i]? = some k) (hc : X.calm = true) (hN : X.N.Nodup) (ok : blkN X.N X.env.scope scope [k] = true) (hl : ifs.length ≤ 1)
    (B : Blt X.mg) (hg : Gl X "range") (hs : starEach [a] X.env = [(false, eval a X.env)]) (q : RA X [a] σ H fun x H1 => LcR1 X scope (.Name k pk) ifs elt σ [i] Q x H1) : RE X (.ListComp elt [⟨.Name k pk, .Call (.Name "range" p) [a] [] p', ifs, 0⟩] scope pos) σ H Q :=
  e_lcI (own := [(k, i)]) hc hN (pi_range1 hg B.range (ra [a]) hs) (blkOk_of (own1 hk) ok) hl (fun _ => rfl) q
theorem e_lcR2 {elt : Expr} {ifs : List Expr} {scope : Scope} {k : Str} {i : Nat} {pk p' : Pos} (hk : X.N[i]? = some k) (hc : X.calm = true) (hN : X.N.Nodup) (ok : blkN X.N X.env.scope scope [k] = true) (hl : ifs.length ≤ 1)
    (B : Blt X.mg) (hg : Gl X "range") (hs : starEach [a, b] X.env = [(false, eval a X.env), (false, eval b X.env)]) (hs2 : starEach [b] X.env = [(false, eval b X.env)]) (q : RA X [a, b] σ H fun x H1 => LcR2 X scope (.Name k pk) ifs elt σ [i] Q x H1) : RE X (.ListComp elt [⟨.Name k pk, .Call (.Name "range" p) [a, b] [] p', ifs, 0⟩] scope pos) σ H Q :=
  e_lcI (own := [(k, i)]) hc hN (pi_range2 hg B.range (ra [a, b]) hs hs2) (blkOk_of (own1 hk) ok) hl (fun _ => rfl) q
theorem turn0 {scope : Scope} {elt : Expr} {D : Addr} {P : List V → Hp → Prop} (q : ∀ (s : Shared) (H0 : Hp) (C : Addr) (cl : List (Str × Addr)) (fp : List Addr), RE (X.blk s H0 scope (compEnvC scope cl C X.env) fp) elt σ H fun y H4 => ∃ acc, H4 D = some (.lst acc) ∧ acc.length < sizeLine ∧ P (acc ++ [y]) (upd H4 D (.lst (acc ++ [y])))) :
    LcTurn X scope [] elt D P σ H := by
  unfold LcTurn LcStep LcTest
  exact iteT q
theorem turn1 {scope : Scope} {elt : Expr} {D : Addr} {P : List V → Hp → Prop} (q : ∀ (s : Shared) (H0 : Hp) (C : Addr) (cl : List (Str × Addr)) (fp : List Addr), RT (X.blk s H0 scope (compEnvC scope cl C X.env) fp) c σ H fun b H3 => if b = true then
      (∀ (s : Shared) (H0 : Hp) (C : Addr) (cl : List (Str × Addr)) (fp : List Addr), RE (X.blk s H0 scope (compEnvC scope cl C X.env) fp) elt σ H3 fun y H4 => ∃ acc, H4 D = some (.lst acc) ∧ acc.length < sizeLine ∧ P (acc ++ [y]) (upd H4 D (.lst (acc ++ [y])))) else ∃ acc, H3 D = some (.lst acc) ∧ P acc H3) :
    LcTurn X scope [c] elt D P σ H := q
end
end Sx

end
section -- Se
set_option maxRecDepth 100000
set_option maxHeartbeats 4000000
namespace PySem
open Sem (wp)
theorem sx_enum_newB {v : Value} {o : Obj} {H : Heap → Prop} (B : Begins v o H) :
    Meets (Builtin.«enumerate.__new__» ⟨[.type "enumerate", v], []⟩) (fun _ R s => H s.heap ∧
      R (.ok (.ret (.ref (s.heap.push o).objs.size))) { s with heap := (s.heap.push o).push { cls := .type "enumerate", data := .fields #[.none, .bool false, .ref s.heap.objs.size, rawInt 0, .none, .none] } }) :=
  .of_wp fun prog w A R s h => by
    obtain ⟨hp, g, d, tk, os⟩ := s; obtain ⟨h1, h⟩ := h
    have hsub := sub_enumerate
    have q1 : ∀ {A' : Around} {E : Value → Shared → Prop} {Q : Value → Shared → Prop}, Q (.ref hp.objs.size) ⟨hp.push o, g, d, tk, os⟩ → wpAny (model prog w) A' (pyIter v) Q E ⟨hp, g, d, tk, os⟩ :=
      fun q => B.iter prog w _ _ ⟨hp, g, d, tk, os⟩ _ h1 q
    wp_walk using q1
    refine wpAny_stack_any fun st => wpAny_pure ?_
    split
    · rename_i c _ _ _ _ _
      cases (c == Value.type "enumerate") <;> (wp_walk using q1; exact ⟨_, rfl, h⟩)
    · wp_walk using q1
      exact ⟨_, rfl, h⟩
theorem sx_enum_begins {prog : Program} {w : World} {A : Around} {E : Value → Shared → Prop} {s : Shared} {v : Value} {o : Obj} {H : Heap → Prop} {Q : Value → Shared → Prop} (B : Begins v o H) (h1 : H s.heap)
    (h : ∀ h', IsEnum h' (s.heap.objs.size + 1) s.heap.objs.size 0 .none → h'.get? s.heap.objs.size = some o → h'.objs.size = s.heap.objs.size + 2 →
      (∀ b o, s.heap.get? b = some o → h'.get? b = some o) → Q (.ref (s.heap.objs.size + 1)) { s with heap := h' }) : wpAny (model prog w) A (call (.type "enumerate") [v]) Q E s := by
  refine callType_new F.called_enumerate (by decide) (F.typeCall_enumerate_1 _) (F.newCall_enumerate_1 _) (fun obj => F.args_object_init_2 obj _) F.entry_enumerate_new (sx_enum_newB B) ⟨h1, ?_⟩
  have hz : (s.heap.push o).objs.size = s.heap.objs.size + 1 := Heap.size_push ..
  show _ ∧ _
  rw [hz]
  have he : IsEnum ((s.heap.push o).push { cls := .type "enumerate", data := .fields #[.none, .bool false, .ref s.heap.objs.size, rawInt 0, .none, .none] }) (s.heap.objs.size + 1) s.heap.objs.size 0 .none := by
    have := Heap.get?_push_size (s.heap.push o) (o := { cls := .type "enumerate", data := .fields #[.none, .bool false, .ref s.heap.objs.size, rawInt 0, .none, .none] }) rfl
    rw [hz] at this; exact this
  refine ⟨⟨_, he, rfl⟩, h _ he (Heap.get?_push_of_some _ (Heap.get?_push_size _ B.free)) (by rw [Heap.size_push, hz]) fun b o x => Heap.get?_push_of_some _ (Heap.get?_push_of_some _ x)⟩
end PySem
namespace Sx
open PySem PySem.Spec L2
open PyProof.Rows hiding St

/-- a tuple's items, each in a new pair with its place -/
def IteT (K : PySem.W.Frag) (a : Addr) : It :=
  ⟨fun i H => ∃ (xs : List V) (x : V), SqT K H a xs ∧ xs[i]? = some x, fun i H v H' => ∃ T x, v = .ref T ∧ H T = none ∧ H' = upd H T (.tup [.int (i : Nat), x]) ∧ ∀ xs, SqT K H a xs → xs[i]? = some x, fun i H => ∃ xs : List V, SqT K H a xs ∧ xs.length ≤ i⟩
theorem turn_enumT {P : Program} {w : World} {K : PySem.W.Frag} {elts : List Expr} {kk : Nat} {tpos : Pos} (a e it : Addr) :
    Turn P w K (.Tuple elts kk tpos) (IteT K a) [e, it] e (fun i h => (∃ old, IsEnum h e it ((i : Nat) : Int) old) ∧ h.IsTupleIter it a i ∧ e ≠ it ∧ a ≠ it ∧ a ≠ e) where
  mem := by simp
  obj := fun i h st b hb => by
    obtain ⟨⟨old, he⟩, ⟨o, ho, hc, hd⟩, _⟩ := st
    have e' : b = e ∨ b = it := by simpa using hb
    rcases e' with z | z
    · rw [z]; exact ⟨_, he, fun v q => nomatch q⟩
    · rw [z]; exact ⟨o, ho, fun v q => by rw [hd] at q; cases q⟩
  keep := fun i h h' st k => let ⟨⟨old, he⟩, hi, hne⟩ := st; ⟨⟨old, k e (by simp) _ he⟩, hi.at fun o q => k it (by simp) o q, hne⟩
  item := by
    intro X hP hw hK hc i pins s σ H E I hf st hg
    subst hP hw hK
    obtain ⟨⟨old, he⟩, hit, hne, hai, hae⟩ := st
    obtain ⟨xs, x, hq, hx⟩ := hg
    obtain ⟨its, rv, p, hz⟩ := I.tuple hq
    obtain ⟨u, hu, ru⟩ := rv.get hx
    have hel : e < s.heap.objs.size := Heap.lt_size he
    have hil : it < s.heap.objs.size := by obtain ⟨_, q, _⟩ := hit; exact Heap.lt_size q
    have hlt : i < its.toArray.size := by
      obtain ⟨h1, _⟩ := List.getElem?_eq_some_iff.mp hu
      simpa using h1
    refine wpAny_pyNext_enum_itemD (Draws.tuple (A := X.A.in1) (show X.A.in1.handled = none from I.ok.hd hc) it a hai its.toArray) he ⟨hit, p⟩ hlt hne (by simp [hne, Ne.symm hae]) fun x' h' tk hx' ho hit' hT hsz hk => ?_
    have ex : x' = u := by
      have e1 : its.toArray[i]? = some u := by simpa using hu
      rw [e1] at hx'
      exact (Option.some.inj hx').symm
    subst ex
    refine ⟨_, rfl, wpAny_letOwnedTupleGo_enum (s := { s with heap := h', toks := tk + 1 }) ho fun h'' he' sb => ?_⟩
    have hT2 : h''.get? s.heap.objs.size = some { cls := .type "tuple", data := .seq #[.int i tk, x'] } := (sb.2 _ (Nat.ne_of_gt hel)).trans hT
    have new : ObjOk X.prog X.w (upd H s.heap.objs.size (.tup [.int (i : Nat), x])) h'' s.heap.objs.size (.tup [.int (i : Nat), x]) :=
      ⟨by show 2 ≤ sizeLine; decide, [.int i tk, x'], .cons ⟨_, rfl⟩ (.cons ru .nil), ⟨_, hT2, rfl, _, rfl⟩⟩
    have I1 : Inv X pins σ (upd H s.heap.objs.size (.tup [.int (i : Nat), x])) { s with heap := h'', toks := tk + 1 } :=
      I.turnedNew (ch := [e, it]) (fun b ob hb q => (sb.2 b (fun z => hb (by simp [z]))).trans (hk b ob (fun z => hb (by simp [z])) (fun z => hb (by simp [z])) q)) hf (Nat.le_refl _) new
    refine ⟨.ref s.heap.objs.size, _, I1, rfl, ⟨_, x, rfl, I.hok.fresh (Nat.le_refl _), rfl, fun ys hy => by rw [I.tuple_inj hy hq]; exact hx⟩, ⟨⟨x', ?_⟩, hit'.1.at fun o q => (sb.2 it (Ne.symm hne)).trans q, hne, hai, hae⟩, fun b hb => ?_⟩
    · have e1 : ((i + 1 : Nat) : Int) = (i : Int) + 1 := by omega
      rw [e1]; exact he'
    · have hb' : b < s.heap.objs.size := by
        have e' : b = e ∨ b = it := by simpa using hb
        rcases e' with z | z
        · rw [z]; exact hel
        · rw [z]; exact hil
      rw [upd_ne (Nat.ne_of_lt hb')]
      exact (hf b hb).1
  done := by
    intro X hP hw hK hc i pins s σ H E I hf st hg
    subst hP hw hK
    obtain ⟨⟨old, he⟩, hit, hne, hai, hae⟩ := st
    obtain ⟨xs, hq, hx⟩ := hg
    obtain ⟨its, rv, p, hz⟩ := I.tuple hq
    obtain ⟨f0, f1, f2, f3, f4, f5⟩ := hf it (by simp)
    have hl := rv.length
    unfold pyNext
    refine wpAny_bind (wpAny_attempt (wpAny_callSpecial?_slot (name := Str.ofString "__next__") ⟨_, he, rfl⟩ PySem.F.slot_enumerate_next
      (wpAny_call_entry PySem.F.slot_enumerate_next ⟨_, he, rfl⟩ PySem.F.entry_enumerate_next ?_ (PySem.F.args_enumerate_next_1 _))))
    show wpAny _ _ (field (.ref e) 2 >>= _) _ _ _
    refine wpAny_bind (wpAny_field he rfl (x := .ref it) rfl ?_)
    refine wpAny_bind (wpAny_nextOf_tuple_end (I.ok.hd hc) hit p (by simp; omega) fun h' x he' hx' => ?_)
    obtain ⟨o, ho, hc'⟩ := hx'
    refine wpAny_bind (wpAny_isInstance (T := "StopIteration") (b := true) ⟨o, ho, hc'⟩ isSubtype_stop ?_)
    exact wpAny_pure ⟨rfl, I.turned (t' := s.toks) (fun b o hb q => he' b o hb q) f0 f1 f3 f4 f5⟩
  self := fun A i s Q E st h => let ⟨⟨_, he⟩, _⟩ := st; wpAny_pyIter_enum he h

section
variable {X : Cx} {e l : Expr} {es : List Expr} {body : List Stmt} {σ : St} {H : Hp} {pos p p' tpos : Pos} {nx bk ct : St → Hp → Prop} {rt' : VK} {elts : List Expr} {kk : Nat}
def iEnumT (K : PySem.W.Frag) (ta : TA) : TI := fun σ H R => ta σ H fun vs H1 => ∃ a xs, vs = [.ref a] ∧ SqT K H1 a xs ∧ R (IteT K a) H1
theorem pi_enumT {ta : TA} (hg : Gl X "enumerate") (hm : X.mg "enumerate" = none) (ha : PA X [e] ta) (hs : starEach [e] X.env = [(false, eval e X.env)]) : PI X (.Tuple elts kk tpos) (.Call (.Name "enumerate" p) [e] [] pos) (iEnumT X.K ta) := by
  refine ⟨fun pins s σ H R I h => ?_⟩
  refine Call_ (ld_blt I hg hm boot_enumerate (PyProof.Rows.callWith_type1 (thn (ha.run pos pins s σ H _ I h) fun us s1 ⟨vs, H1, I1, r1, q1⟩ => ?_) hs rfl))
  obtain ⟨a, xs, ex, hq, q⟩ := q1
  subst ex
  cases r1 with
  | cons r rr =>
    cases rr
    cases r
    obtain ⟨its, rv, p', hz⟩ := I1.tuple hq
    refine PySem.sx_enum_begins (begins_tuple a its.toArray) p' fun h' he hit hsz hk => wpAny_pyIter_enum he ?_
    have I2 : Inv X pins σ H1 { s1 with heap := h' } := I1.kept (t' := s1.toks) hk
    have hal : a < s1.heap.objs.size := p'.lt
    refine ⟨s1.heap.objs.size + 1, [s1.heap.objs.size + 1, s1.heap.objs.size], _, _, H1, rfl, I2, turn_enumT a (s1.heap.objs.size + 1) s1.heap.objs.size, ⟨⟨.none, he⟩, ⟨_, hit, rfl, rfl⟩, Nat.succ_ne_self _, Nat.ne_of_lt hal, Nat.ne_of_lt (Nat.lt_succ_of_lt hal)⟩, fun b hb => ?_, q⟩
    have e' : b = s1.heap.objs.size + 1 ∨ b = s1.heap.objs.size := by simpa using hb
    have hle : s1.heap.objs.size ≤ b := by
      rcases e' with z | z
      · rw [z]; exact Nat.le_add_right _ _
      · rw [z]; exact Nat.le_refl _
    exact I1.fpOk hle (I1.hok.fresh hle)
/-- for i, x in enumerate(t), t a tuple -/
def ForET (X : Cx) (tg : Expr) (body : List Stmt) (nx : St → Hp → Prop) (rt' : VK) (σ : St) (vs : List V) (H1 : Hp) : Prop := ∃ a xs, vs = [.ref a] ∧ SqT X.K H1 a xs ∧ ForJ X tg body nx rt' σ (IteT X.K a) H1
theorem s_forET (hp : PassesOwn (model X.prog X.w) X.A X.env X.xe) (hc : X.calm = true) (B : Blt X.mg) (hg : Gl X "enumerate") (hs : starEach [e] X.env = [(false, eval e X.env)]) (q : RA X [e] σ H fun vs H1 => ForET X (.Tuple elts kk tpos) body nx rt' σ vs H1) :
    RS X (.For (.Tuple elts kk tpos) (.Call (.Name "enumerate" p) [e] [] p') body [] pos) ⟨nx, rt', bk, ct⟩ σ H := s_forI (fun _ => rfl) hp hc (pi_enumT hg B.enumerate (ra [e]) hs) q
theorem forET {tg : Expr} {a : Addr} {xs : List V} (h : SqT X.K H a xs) (Pv : Nat → St → Hp → Prop) (h0 : Pv 0 σ H) (hl : ∀ i σ H, i ≤ xs.length → Pv i σ H → SqT X.K H a xs)
    (hs : ∀ i x σ H T, xs[i]? = some x → Pv i σ H → H T = none → RG X tg (.ref T) σ (upd H T (.tup [.int (i : Nat), x])) fun σ2 H2 => RSs X body ⟨Pv (i + 1), rt', nx, Pv (i + 1)⟩ σ2 H2) (hd : ∀ σ H, Pv xs.length σ H → nx σ H) : ForET X tg body nx rt' σ [.ref a] H := by
  refine ⟨a, xs, rfl, h, fun i m σ H => m = xs.length - i ∧ i ≤ xs.length ∧ Pv i σ H, ⟨xs.length, by simp, Nat.zero_le _, h0⟩, ?_⟩
  rintro i m σ H ⟨rfl, hi, p⟩
  have q := hl i σ H hi p
  by_cases hlt : i < xs.length
  · refine .inr ⟨⟨xs, xs[i], q, by simp [hlt]⟩, Pv (i + 1), fun σ' H' p' => ⟨xs.length - (i + 1), by omega, rfl, hlt, p'⟩, fun v H' y => ?_⟩
    obtain ⟨T, x, rfl, hT, rfl, f⟩ := y
    exact hs i x σ H T (f xs q) p hT
  · have e : i = xs.length := by omega
    subst e
    exact .inl ⟨⟨xs, q, Nat.le_refl _⟩, hd σ H p⟩
end
end Sx

end
section -- So
set_option maxRecDepth 100000
set_option maxHeartbeats 4000000
namespace Sx
open PySem PySem.Spec L2
open PyProof.Rows hiding St

/-! ### a method of a class of the text -/
structure MethOk (P : Program) (w : World) (K : PySem.W.Frag) (mg : Str → Option Value) (base : Heap) (C : Addr) (m : Str) (k : Nat) (ps : List Str) (sp : Sp) : Prop where
  ex : ∃ (f : Addr) (fd : FuncData), FnOk P w K mg base CX0 k f fd ps sp ∧ Meth K C m f ∧ Binds K fd ps []

section
variable {X : Cx} {C a b dx dx' f : Addr} {fs fs' : List (Str × V)} {m : Str} {k : Nat} {ps : List Str} {sp : Sp} {H : Hp} {Q : VK} {fd : FuncData}

theorem rr (a : Addr) : RelV (V.ref a) (Value.ref a) := rfl
theorem ri (i : Int) (t : Tok) : RelV (V.int i) (Value.int i t) := ⟨t, rfl⟩
theorem run_plain {pins : List (Addr × Obj)} {σ : St} {s : Shared} {us : List Value} {vs : List V} (F : FnOk X.prog X.w X.K X.mg X.base CX0 k f fd ps sp) (hr : Room k X.A) (hb : Binds X.K fd ps []) (I : Inv X pins σ H s) (r : Vals vs us) (h : sp vs H Q E0) :
    wpAny (model X.prog X.w) X.A (call (.ref f) us) (EP X pins σ Q) X.xe s := run_fn F hr hb .nil pass0 I r (by rw [List.append_nil]; exact h)
theorem run_in1 {pins : List (Addr × Obj)} {σ : St} {s : Shared} {us : List Value} {vs : List V} (F : FnOk X.prog X.w X.K X.mg X.base CX0 k f fd ps sp) (hr : Room (k + 1) X.A) (hb : Binds X.K fd ps []) (I : Inv X pins σ H s) (r : Vals vs us) (h : sp vs H Q E0) :
    wpAny (model X.prog X.w) X.A.in1 (call (.ref f) us) (EP X pins σ Q) X.xe s := by
  have hl : (us ++ []).length = ps.length := by rw [List.append_nil, ← r.length]; exact F.len _ _ _ _ h
  have hl' := hl
  rw [List.append_nil] at hl'
  have hb' := hb s us I.kIn hl
  rw [List.append_nil] at hb'
  refine wpAny_call (codeAny_mono (F.run X.A.in1 X.stack s H ⟨us, []⟩ us vs Q E0 hr.in1 I.env0.in1 hb' r h) fun r s' hq => ?_)
  cases r with
  | error e => exact False.elim hq
  | ok fl =>
    cases fl with
    | ret u => exact I.after hq
    | next => exact False.elim hq
    | brk => exact False.elim hq
    | cont => exact False.elim hq
theorem run_in2 {pins : List (Addr × Obj)} {σ : St} {s : Shared} {us : List Value} {vs : List V} (F : FnOk X.prog X.w X.K X.mg X.base CX0 k f fd ps sp) (hr : Room (k + 2) X.A) (hb : Binds X.K fd ps []) (I : Inv X pins σ H s) (r : Vals vs us) (h : sp vs H Q E0) :
    wpAny (model X.prog X.w) X.A.in1.in1 (call (.ref f) us) (EP X pins σ Q) X.xe s := by
  have hl : (us ++ []).length = ps.length := by rw [List.append_nil, ← r.length]; exact F.len _ _ _ _ h
  have hl' := hl
  rw [List.append_nil] at hl'
  have hb' := hb s us I.kIn hl
  rw [List.append_nil] at hb'
  refine wpAny_call (codeAny_mono (F.run X.A.in1.in1 X.stack s H ⟨us, []⟩ us vs Q E0 hr.in1.in1 I.env0.in1.in1 hb' r h) fun r s' hq => ?_)
  cases r with
  | error e => exact False.elim hq
  | ok fl =>
    cases fl with
    | ret u => exact I.after hq
    | next => exact False.elim hq
    | brk => exact False.elim hq
    | cont => exact False.elim hq
theorem back {pins : List (Addr × Obj)} {σ : St} {u : Value} {s : Shared} (h : EP X pins σ Q u s) : PySem.W.CmpBack (EP X pins σ Q) u s := by
  obtain ⟨v, H', I, r, q⟩ := h
  cases v with
  | non => cases r; exact ⟨.non, H', I, rfl, q⟩
  | bl b => cases r; exact ⟨.bl b, H', I, rfl, q⟩
  | int i => obtain ⟨t, rfl⟩ := r; exact ⟨.int i, H', I, ⟨t, rfl⟩, q⟩
  | str x => obtain ⟨t, rfl⟩ := r; exact ⟨.str x, H', I, ⟨t, rfl⟩, q⟩
  | byt x => obtain ⟨t, rfl⟩ := r; exact ⟨.byt x, H', I, ⟨t, rfl⟩, q⟩
  | flt x => obtain ⟨t, rfl⟩ := r; exact ⟨.flt x, H', I, ⟨t, rfl⟩, q⟩
  | ref x => cases r; exact ⟨.ref x, H', I, rfl, q⟩
  | ty n => cases r; exact ⟨.ty n, H', I, rfl, q⟩

/-- what the operators of a class want of it -/
structure Ops (K : PySem.W.Frag) (C : Addr) : Prop where
  first : PySem.W.selfFirst K C = true
theorem typ_ins {pins : List (Addr × Obj)} {σ : St} {s : Shared} (I : Inv X pins σ H s) (ea : H a = some (.ins C dx fs)) : ∃ od, PySem.W.InstAt s.heap a (PySem.W.instObj C dx) C (some od) := by
  obtain ⟨mA, O, _⟩ := ins_get I.hok ea
  obtain ⟨od, J, _⟩ := O.look
  exact ⟨od, J⟩
/-- a op b, two objects of the class -/
theorem o_own {op : Operator} (O : Ops X.K C) (ea : H a = some (.ins C dx fs)) (eb : H b = some (.ins C dx' fs')) (M : MethOk X.prog X.w X.K X.mg X.base C (PySem.dunder op.info.2) k ps sp) (hr : Room k X.A) (q : sp [.ref a, .ref b] H Q E0) : RO X (binaryOp op) (.ref a) (.ref b) H Q := by
  intro pins s σ v u I r1 r2
  cases r1
  cases r2
  obtain ⟨f, fd, F, hm, hb⟩ := M.ex
  obtain ⟨m', Fr⟩ := I.fr
  obtain ⟨od, J⟩ := typ_ins I ea
  obtain ⟨od', J'⟩ := typ_ins I eb
  exact PySem.W.binop_K Fr I.ok.mod.kin J J'.type O.first hm.at_ hm.fn (thn (run_plain F hr hb I (.cons (rr a) (.cons (rr b) .nil)) q) fun u s' h => back h)
/-- a op i, i an int -/
theorem o_ownI {op : Operator} {i : Int} {fo ro : Option Value} (O : Ops X.K C) (ea : H a = some (.ins C dx fs)) (M : MethOk X.prog X.w X.K X.mg X.base C (PySem.dunder op.info.2) k ps sp) (hr : Room k X.A)
    (h0 : PySem.W.findIn X.K (.ref C) (dunderR op.info.2) = some none) (h1 : PySem.W.findIn X.K (.type "int") (PySem.dunder op.info.2) = some fo) (h2 : PySem.W.findIn X.K (.type "int") (dunderR op.info.2) = some ro) (h3 : PySem.W.subIn X.K (.type "int") (.ref C) = some false)
    (q : sp [.ref a, .int i] H Q E0) : RO X (binaryOp op) (.ref a) (.int i) H Q := by
  intro pins s σ v u I r1 r2
  cases r1
  obtain ⟨t, rfl⟩ := r2
  obtain ⟨f, fd, F, hm, hb⟩ := M.ex
  obtain ⟨m', Fr⟩ := I.fr
  obtain ⟨od, J⟩ := typ_ins I ea
  exact PySem.W.ksp_binT (T := "int") Fr I.ok.mod.kin J rfl O.first hm.at_ hm.fn h0 (.inl rfl) h1 h2 h3 (thn (run_plain F hr hb I (.cons (rr a) (.cons (ri _ _) .nil)) q) fun u s' h => back h)
theorem u_ownNeg (ea : H a = some (.ins C dx fs)) (M : MethOk X.prog X.w X.K X.mg X.base C "__neg__" k ps sp) (hr : Room k X.A) (q : sp [.ref a] H Q E0) : RU X (unaryOp .USub) (.ref a) H Q := by
  intro pins s σ v I r1
  cases r1
  obtain ⟨f, fd, F, hm, hb⟩ := M.ex
  obtain ⟨m', Fr⟩ := I.fr
  obtain ⟨od, J⟩ := typ_ins I ea
  exact PySem.W.ksp_neg Fr I.ok.mod.kin J hm.at_ hm.fn (run_plain F hr hb I (.cons (rr a) .nil) q)
theorem u_ownInv (ea : H a = some (.ins C dx fs)) (M : MethOk X.prog X.w X.K X.mg X.base C "__invert__" k ps sp) (hr : Room k X.A) (q : sp [.ref a] H Q E0) : RU X (unaryOp .Invert) (.ref a) H Q := by
  intro pins s σ v I r1
  cases r1
  obtain ⟨f, fd, F, hm, hb⟩ := M.ex
  obtain ⟨m', Fr⟩ := I.fr
  obtain ⟨od, J⟩ := typ_ins I ea
  exact PySem.W.ksp_inv Fr I.ok.mod.kin J hm.at_ hm.fn (run_plain F hr hb I (.cons (rr a) .nil) q)
/-- a == b by the class's __eq__ -/
theorem c_ownEq (O : Ops X.K C) (ea : H a = some (.ins C dx fs)) (eb : H b = some (.ins C dx' fs')) (M : MethOk X.prog X.w X.K X.mg X.base C "__eq__" k ps sp) (hr : Room k X.A) (q : sp [.ref a, .ref b] H Q E0) : RO X (compareOp .Eq) (.ref a) (.ref b) H Q := by
  intro pins s σ v u I r1 r2
  cases r1
  cases r2
  obtain ⟨f, fd, F, hm, hb⟩ := M.ex
  obtain ⟨m', Fr⟩ := I.fr
  obtain ⟨od, J⟩ := typ_ins I ea
  obtain ⟨od', J'⟩ := typ_ins I eb
  refine PySem.W.cmp_ofEq (PySem.W.cmp_K (tb := .ref C) hr.units0 Fr I.ok.mod.kin J J'.type ?_ hm.at_ hm.fn (thn (run_plain F hr hb I (.cons (rr a) (.cons (rr b) .nil)) q) fun u s' h => back h))
  show (_ == _ || _) = true
  rw [beq_self_eq_true, Bool.true_or]
section
variable {prog : Program} {w : World} {A : Around} {E : Value → Shared → Prop} {s : Shared} {K : PySem.W.Frag} {x g : Addr} {ox : Obj} {od : Option Obj} {v : Value}
theorem obj_ne_own {Q : Fin → Shared → Prop} (hu : A.units < cLine) (Xk : K.In s.heap) (J : PySem.W.InstAt s.heap x ox C od) (hs : PySem.W.findIn K (.ref C) "__eq__" = some (some (.ref g))) (hf : PySem.W.isFn K (.ref g) = true)
    (h : wpAny (model prog w) A (call (.ref g) [.ref x, v]) (fun r s' => ∃ b, r = .bool b ∧ Q (.done (.ret (.bool (!b)))) s') E s) : wpAny (model prog w) A (Builtin.«object.__ne__» ⟨[.ref x, v], []⟩) Q E s := by
  unfold Builtin.«object.__ne__»
  repeat (first
    | with_reducible refine wpAny_cRoomFor hu ?_
    | (refine wpAny_bind (m := callSpecialIfBound? (.ref x) (Str.ofString "__eq__") [v]) (PySem.W.ifBound_K Xk J hs hf (wpAny_mono h (fun r s' hr => by
          obtain ⟨b, rfl, q⟩ := hr
          repeat (first | exact q | exact wpAny_pure q | exact wpAny_truthy_bool q | (refine wpAny_bind (m := truthy (.bool _)) (wpAny_truthy_bool ?_)) | wp_step)) fun _ _ e => e)))
    | wp_step)
theorem bound_obj_ne {Q : Option Value → Shared → Prop} (Xk : K.In s.heap) (J : PySem.W.InstAt s.heap x ox C od) (hs : PySem.W.findIn K (.ref C) "__ne__" = some (some (.builtin "object.__ne__")))
    (h : wpAny (model prog w) A (call (.builtin "object.__ne__") [.ref x, v]) (fun r => Q (some r)) E s) : wpAny (model prog w) A (callSpecialIfBound? (.ref x) "__ne__" [v]) Q E s := by
  simp only [callSpecialIfBound?, bindSpecialIfBound?]
  refine wpAny_holding (wpAny_bind (wpAny_bind (wpAny_bind (J.type.here ((PySem.W.looks_findIn Xk hs).here ?_)))))
  simp only [PySem.F.cmp_object.ne.bind]
  refine wpAny_bind (wpAny_askSetting (wpAny_ite ?_))
  have fin : wpAny (model prog w) A (call (.builtin "object.__ne__") ([.ref x] ++ [v]) >>= fun v => pure (some v)) Q E s := wpAny_bind (wpAny_mono h (fun v s' h' => wpAny_pure h') fun _ _ h' => h')
  split
  · exact wpAny_bind (wpAny_pure (wpAny_pure fin))
  · exact wpAny_tryCatch (wpAny_bind (wpAny_pure (wpAny_pure fin)))
theorem ne_own {Q : Value → Shared → Prop} {h₀ : Heap} {L : Addr} {mL : Str → Option Value} (hu : A.units + 1 < cLine) (F : Fr h₀ L s.heap mL) (X₀ : K.In h₀) (J : PySem.W.InstAt s.heap x ox C od) (hb : PySem.W.Looks (model prog w) s.heap (typeOf v) (.ref C))
    (hn : PySem.W.findIn K (.ref C) "__ne__" = some (some (.builtin "object.__ne__"))) (ho : PySem.W.subIn K (.ref C) (.type "object") = some true) (hs : PySem.W.findIn K (.ref C) "__eq__" = some (some (.ref g))) (hf : PySem.W.isFn K (.ref g) = true)
    (h : wpAny (model prog w) A.in1 (call (.ref g) [.ref x, v]) (fun r s' => ∃ b, r = .bool b ∧ Q (.bool (!b)) s') E s) : wpAny (model prog w) A (richCompare .NotEq (.ref x) v) Q E s := by
  have Xk := X₀.keeps F.keep
  have one : wpAny (model prog w) A (tryCompare (.ref x) "__ne__" v) (fun r s' => ∃ z, r = some z ∧ Q z s') E s := by
    unfold tryCompare
    refine wpAny_bind (bound_obj_ne Xk J hn (wpAny_call (codeAny_call_builtin PySem.F.cmp_object.ne.plain PySem.F.cmpEntry_ne
      (PySem.W.check_slot PySem.F.cmpKind_ne PySem.F.cmpSplit_ne (J.type.andThen (PySem.W.looks_subIn Xk ho)) (PySem.F.cmpArgs_ne _ _)
        (obj_ne_own (A := A.in1) hu Xk J hs hf (wpAny_mono h (fun r s' hr => ?_) fun _ _ e => e))))))
    obtain ⟨b, rfl, q⟩ := hr
    first | exact ⟨b, rfl, wpAny_pure ⟨_, rfl, q⟩⟩ | exact ⟨b, rfl, wpAny_pure (wpAny_pure ⟨_, rfl, q⟩)⟩ | exact ⟨b, rfl, ⟨_, rfl, q⟩⟩
  unfold richCompare
  simp only [oneThing_ref]
  refine wpAny_holding (wpAny_bind (wpAny_cRoomFor (Nat.lt_of_succ_lt hu) ?_))
  refine wpAny_bind (J.type.here (wpAny_bind (hb.here ?_)))
  rw [show (Value.ref C != Value.ref C) = false from by simp]
  simp only [Bool.false_eq_true, if_false]
  refine wpAny_bind (wpAny_pure ?_)
  simp only [Bool.false_eq_true, if_false]
  refine wpAny_bind (wpAny_mono one (fun r s' z => ?_) fun _ _ e => e)
  obtain ⟨v, rfl, hq⟩ := z
  exact wpAny_pure hq
end
/-- a != b by the class's __eq__ -/
theorem c_ownNe (ea : H a = some (.ins C dx fs)) (eb : H b = some (.ins C dx' fs')) (M : MethOk X.prog X.w X.K X.mg X.base C "__eq__" k ps sp) (hr : Room (k + 1) X.A)
    (hn : PySem.W.findIn X.K (.ref C) "__ne__" = some (some (.builtin "object.__ne__"))) (ho : PySem.W.subIn X.K (.ref C) (.type "object") = some true)
    (q : sp [.ref a, .ref b] H (fun v H' => ∃ t, v = .bl t ∧ Q (.bl (!t)) H') E0) : RO X (compareOp .NotEq) (.ref a) (.ref b) H Q := by
  intro pins s σ v u I r1 r2
  cases r1
  cases r2
  obtain ⟨f, fd, F, hm, hb⟩ := M.ex
  obtain ⟨m', Fr⟩ := I.fr
  obtain ⟨od, J⟩ := typ_ins I ea
  obtain ⟨od', J'⟩ := typ_ins I eb
  refine PySem.W.cmp_ofNotEq (ne_own (by have := hr.units; omega) Fr I.ok.mod.kin J J'.type hn ho hm.at_ hm.fn (thn (run_in1 F hr hb I (.cons (rr a) (.cons (rr b) .nil)) q) fun u s' h => ?_))
  obtain ⟨v, H', I', r, t, rfl, q⟩ := h
  cases r
  exact ⟨t, rfl, .bl (!t), H', I', rfl, q⟩
/-- v in a -/
theorem c_ownIn {x : V} (ea : H a = some (.ins C dx fs)) (M : MethOk X.prog X.w X.K X.mg X.base C "__contains__" k ps sp) (hr : Room k X.A)
    (q : sp [.ref a, x] H (fun v H' => ∃ t, v = .bl t ∧ Q (.bl t) H') E0) : RO X (compareOp .In) x (.ref a) H Q := by
  intro pins s σ v u I r1 r2
  cases r2
  obtain ⟨f, fd, F, hm, hb⟩ := M.ex
  obtain ⟨m', Fr⟩ := I.fr
  obtain ⟨od, J⟩ := typ_ins I ea
  refine PySem.W.in_K Fr I.ok.mod.kin J hm.at_ hm.fn (thn (run_plain F hr hb I (.cons (rr a) (.cons r1 .nil)) q) fun u s' h => ?_)
  obtain ⟨v, H', I', r, t, rfl, q⟩ := h
  cases r
  exact wpAny_truthy_bool ⟨.bl t, H', I', rfl, q⟩
theorem c_ownNotIn {x : V} (ea : H a = some (.ins C dx fs)) (M : MethOk X.prog X.w X.K X.mg X.base C "__contains__" k ps sp) (hr : Room k X.A)
    (q : sp [.ref a, x] H (fun v H' => ∃ t, v = .bl t ∧ Q (.bl (!t)) H') E0) : RO X (compareOp .NotIn) x (.ref a) H Q := by
  intro pins s σ v u I r1 r2
  cases r2
  obtain ⟨f, fd, F, hm, hb⟩ := M.ex
  obtain ⟨m', Fr⟩ := I.fr
  obtain ⟨od, J⟩ := typ_ins I ea
  refine PySem.W.notIn_K Fr I.ok.mod.kin J hm.at_ hm.fn (thn (run_plain F hr hb I (.cons (rr a) (.cons r1 .nil)) q) fun u s' h => ?_)
  obtain ⟨v, H', I', r, t, rfl, q⟩ := h
  cases r
  exact wpAny_truthy_bool ⟨.bl (!t), H', I', rfl, q⟩
/-- len(a) -/
theorem b_ownLen (ea : H a = some (.ins C dx fs)) (M : MethOk X.prog X.w X.K X.mg X.base C "__len__" k ps sp) (hr : Room (k + 1) X.A)
    (q : sp [.ref a] H (fun v H' => ∃ n : Int, v = .int n ∧ (0 ≤ n ∧ n < 2 ^ 63) ∧ Q (.int n) H') E0) : RC X (.builtin "len") [.ref a] H Q := by
  intro pins s σ us I r
  cases r with
  | cons r1 r2 =>
    cases r2
    cases r1
    obtain ⟨f, fd, F, hm, hb⟩ := M.ex
    obtain ⟨m', Fr⟩ := I.fr
    obtain ⟨od, J⟩ := typ_ins I ea
    refine PySem.W.len_K Fr I.ok.mod.kin J hm.at_ hm.fn (thn (run_in1 F hr hb I (.cons (rr a) .nil) q) fun u s' h => ?_)
    obtain ⟨v, H', I', r, n, rfl, hn, q⟩ := h
    obtain ⟨t, rfl⟩ := r
    exact ⟨hn, .int n, H', I'.tok _, ⟨_, rfl⟩, q⟩
/-- str(a) by the class's __str__ -/
theorem b_ownStr (ea : H a = some (.ins C dx fs)) (M : MethOk X.prog X.w X.K X.mg X.base C "__str__" k ps sp) (hr : Room (k + 2) X.A)
    (q : sp [.ref a] H (fun v H' => ∃ z : Str, v = .str z ∧ Q (.str z) H') E0) : RC X (.type "str") [.ref a] H Q := by
  intro pins s σ us I r
  cases r with
  | cons r1 r2 =>
    cases r2
    cases r1
    obtain ⟨f, fd, F, hm, hb⟩ := M.ex
    obtain ⟨od, J⟩ := typ_ins I ea
    refine PySem.W.kso_call (by have := hr.in1.in1.units0; exact this) I.kIn J hm.at_ hm.fn (thn (run_in2 F hr hb I (.cons (rr a) .nil) q) fun u s' h => ?_)
    obtain ⟨v, H', I', r, z, rfl, q⟩ := h
    obtain ⟨t, rfl⟩ := r
    exact ⟨.str z, H', I', ⟨_, rfl⟩, q⟩
/-- repr(a) by the class's __repr__ -/
theorem b_ownRepr (ea : H a = some (.ins C dx fs)) (M : MethOk X.prog X.w X.K X.mg X.base C "__repr__" k ps sp) (hr : Room (k + 1) X.A)
    (q : sp [.ref a] H (fun v H' => ∃ z : Str, v = .str z ∧ Q (.str z) H') E0) : RC X (.builtin "repr") [.ref a] H Q := by
  intro pins s σ us I r
  cases r with
  | cons r1 r2 =>
    cases r2
    cases r1
    obtain ⟨f, fd, F, hm, hb⟩ := M.ex
    obtain ⟨m', Fr⟩ := I.fr
    obtain ⟨od, J⟩ := typ_ins I ea
    refine PySem.W.repr_K hr.in1.units0 Fr I.ok.mod.kin J hm.at_ hm.fn (thn (run_in1 F hr hb I (.cons (rr a) .nil) q) fun u s' h => ?_)
    obtain ⟨v, H', I', r, z, rfl, q⟩ := h
    obtain ⟨t, rfl⟩ := r
    exact ⟨.str z, H', I', ⟨_, rfl⟩, q⟩
/-- a.f, a property -/
theorem e_prop {e : Expr} {x : Str} {pos : Pos} {σ : St} {p g : Addr} (c : Cls X.K C) (hp : PropOf X.K C x p g) (F : FnOk X.prog X.w X.K X.mg X.base CX0 k g fd ps sp) (hr : Room (k + 1) X.A) (hb : Binds X.K fd ps [])
    (hab : attributeBase e x X.env (eval e X.env) = eval e X.env) (q : RE X e σ H fun v H1 => ∃ a dx fs, v = .ref a ∧ H1 a = some (.ins C dx fs) ∧ sp [.ref a] H1 Q E0) : RE X (.Attribute e x pos) σ H Q := re_of (pe_prop (re e) c hp F hr hb .nil pass0 hab) q
/-- a.m(e, ..) -/
theorem e_meth {o e : Expr} {es : List Expr} {apos pos : Pos} {σ : St} {pl : Sem Bool} (c : Cls X.K C) (M : MethOk X.prog X.w X.K X.mg X.base C m k ps sp) (hr : Room k X.A)
    (hst : starEach (e :: es) X.env = (false, eval e X.env) :: starEach es X.env) (hpl : (backTo pos (starEach es X.env)).any (·.1) = false)
    (ht : eval (.Call (.Attribute o m apos) (e :: es) [] pos) X.env = (do let z ← eval o X.env; standAt apos.atName; let (y, first) ← holding [z] (getMethod z m pl); callWith pos y first (backTo pos (starEach (e :: es) X.env)) (backToKw pos (keywordEach [] X.env))))
    (q : RE X o σ H fun v H1 => ∃ a dx fs, v = .ref a ∧ H1 a = some (.ins C dx fs) ∧ fs.lookup m = none ∧ RA X (e :: es) σ H1 fun vs H2 => sp (v :: vs) H2 Q E0) : RE X (.Call (.Attribute o m apos) (e :: es) [] pos) σ H Q := by
  obtain ⟨f, fd, F, hm, hb⟩ := M.ex
  refine re_of (pe_meth (re o) c hm F hr hb .nil pass0 (ra _) hst hpl ht) ?_
  refine fun pins s I => thn (q pins s I) fun u s' h => ?_
  obtain ⟨v, H', I', r, a, dx, fs, e1, e2, e3, q⟩ := h
  refine ⟨v, H', I', r, a, dx, fs, e1, e2, e3, fun ps' pins s I => thn (q ps' pins s I) fun u s' h => ?_⟩
  obtain ⟨vs, H2, I2, r2, q⟩ := h
  exact ⟨vs, H2, I2, r2, by show sp (v :: (vs ++ [])) H2 Q E0; rw [List.append_nil]; exact q⟩
theorem e_meth0 {o : Expr} {apos pos : Pos} {σ : St} {pl : Sem Bool} (c : Cls X.K C) (M : MethOk X.prog X.w X.K X.mg X.base C m k ps sp) (hr : Room k X.A)
    (ht : eval (.Call (.Attribute o m apos) [] [] pos) X.env = (do let z ← eval o X.env; standAt apos.atName; let (y, first) ← holding [z] (getMethod z m pl); callWith pos y first (backTo pos (starEach [] X.env)) (backToKw pos (keywordEach [] X.env))))
    (q : RE X o σ H fun v H1 => ∃ a dx fs, v = .ref a ∧ H1 a = some (.ins C dx fs) ∧ fs.lookup m = none ∧ sp [v] H1 Q E0) : RE X (.Call (.Attribute o m apos) [] [] pos) σ H Q := by
  obtain ⟨f, fd, F, hm, hb⟩ := M.ex
  refine re_of (pe_meth0 (re o) c hm F hr hb .nil pass0 ht) ?_
  refine fun pins s I => thn (q pins s I) fun u s' h => ?_
  obtain ⟨v, H', I', r, a, dx, fs, e1, e2, e3, q⟩ := h
  exact ⟨v, H', I', r, a, dx, fs, e1, e2, e3, q⟩
/-! ### attributes, making -/
theorem few1000 {n : Nat} (h : Nat.ble (n + 1) 1000 = true) : n < 1000 := Nat.le_of_ble_eq_true h
theorem exFld {x : Str} {v : V} {A : V → Prop} {K : PySem.W.Frag} (ha : H a = some (.ins C dx fs)) (hc : Cls K C) (hn : NoAttr K C x) (hl : fs.lookup x = some v) (q : A v) : ∃ a' C dx fs v', V.ref a = .ref a' ∧ H a' = some (.ins C dx fs) ∧ Cls K C ∧ NoAttr K C x ∧ fs.lookup x = some v' ∧ A v' := ⟨a, C, dx, fs, v, rfl, ha, hc, hn, hl, q⟩
theorem s_fld {o e : Expr} {x : Str} {pos pos' : Pos} {σ : St} {nx bk ct : St → Hp → Prop} {rt' : VK} (hs : swapsWith e (some (.Attribute o x pos')) pos.line X.env = pure false)
    (q : RE X e σ H fun y H1 => RE X o σ H1 fun v H2 => ∃ a C dx fs, v = .ref a ∧ H2 a = some (.ins C dx fs) ∧ Cls X.K C ∧ NoAttr X.K C x ∧ fs.length < 1000 ∧ nx σ (upd H2 a (.ins C dx (putF x y fs)))) : RS X (.Assign [.Attribute o x pos'] e pos) ⟨nx, rt', bk, ct⟩ σ H :=
  rs_of (ps_fld (re o) (re e) hs) q
theorem exSet {x : Str} {A : Addr → Addr → Addr → List (Str × V) → Prop} (ha : H a = some (.ins C dx fs)) (hc : Cls X.K C) (hn : NoAttr X.K C x) (hl : fs.length < 1000) (q : A a C dx fs) : ∃ a' C dx fs, V.ref a = .ref a' ∧ H a' = some (.ins C dx fs) ∧ Cls X.K C ∧ NoAttr X.K C x ∧ fs.length < 1000 ∧ A a' C dx fs := ⟨a, C, dx, fs, rfl, ha, hc, hn, hl, q⟩
structure MakeOk (P : Program) (w : World) (K : PySem.W.Frag) (mg : Str → Option Value) (base : Heap) (x : Str) (C : Addr) (k : Nat) (ps : List Str) (sp : Sp) (dvs : List V) : Prop where
  ex : ∃ (f : Addr) (fd : FuncData) (ds : List Value), Mk K C f ∧ FnOk P w K mg base CX0 k f fd ps sp ∧ mg x = some (.ref C) ∧ Binds K fd ps ds ∧ Vals dvs ds
theorem e_make {e : Expr} {es : List Expr} {x : Str} {p pos : Pos} {σ : St} {dvs : List V} (M : MakeOk X.prog X.w X.K X.mg X.base x C k ps sp dvs) (hr : Room (k + 1) X.A) (hg : Gl X x) (hd : (x == ("__debug__" : Str)) = false) (he : starEach (e :: es) X.env = (false, eval e X.env) :: starEach es X.env) (hpl : (backTo pos (starEach es X.env)).any (·.1) = false)
    (q : RA X (e :: es) σ H fun vs H1 => ∀ x dx, H1 x = none → H1 dx = none → dx ≠ x → sp (.ref x :: (vs ++ dvs)) (upd (upd H1 dx (.own x)) x (.ins C dx [])) (fun v H2 => v = .non ∧ Q (.ref x) H2) E0) : RE X (.Call (.Name x p) (e :: es) [] pos) σ H Q := by
  obtain ⟨f, fd, ds, M, F, hm, hb, hv⟩ := M.ex
  exact re_of (pe_make M F hr hg hm hb hv pass0 (ra _) hd he hpl) q
/-- a < b < c -/
theorem e_chain {a b c : Expr} {op op' : CmpOp} {pos : Pos} {σ : St} (hm : lastMarks [op, op'] [b, c] = false) (q : RE X a σ H fun x H1 => RE X b σ H1 fun y H2 => RO X (compareOp op) x y H2 fun z H3 => ∃ k, z = .bl k ∧ (if k = true then RE X c σ H3 fun u H4 => RO X (compareOp op') y u H4 Q else Q (.bl false) H3)) :
    RE X (.Compare a [op, op'] [b, c] pos) σ H Q := re_of (pe_chain (ro _) (ro _) (re a) (re b) (re c) hm) q
theorem look_ix {v : V} : ∀ {N : List Str} {σ : St} {x : Str}, (N.zip σ).lookup x = some (some v) → ∃ i : Nat, N[i]? = some x ∧ σ[i]? = some (some v) := by
  intro N
  induction N with
  | nil => intro σ x h; simp at h
  | cons n ns ih =>
    intro σ x h
    cases σ with
    | nil => simp at h
    | cons o os =>
      rw [List.zip_cons_cons, List.lookup_cons] at h
      split at h
      · rename_i hh
        have e : x = n := by simpa using hh
        exact ⟨0, by rw [e]; rfl, by cases h; rfl⟩
      · obtain ⟨i, h1, h2⟩ := ih h
        exact ⟨i + 1, h1, h2⟩
/-- x op= e -/
theorem s_aug {x : Str} {e : Expr} {op : Operator} {v : V} {pos pos' : Pos} {σ : St} {nx bk ct : St → Hp → Prop} {rt' : VK} (hN : X.N.Nodup) (hx : Loc X.env.scope x) (hf : X.fn x = true ∨ X.env.scope.names.lookup x = some .local) (hv : (X.N.zip σ).lookup x = some (some v))
    (q : RE X e σ H fun y H1 => RIp X op v y H1 fun z H2 => nx (setN X.N σ x z) H2) : RS X (.AugAssign (.Name x pos') op e pos) ⟨nx, rt', bk, ct⟩ σ H := by
  obtain ⟨i, h, h2⟩ := look_ix hv
  refine rs_of (ps_aug (i := i) hN h hx (re e) (rip op) hf) ⟨v, h2, ?_⟩
  have e1 : (fun z H2 => nx (setN X.N σ x z) H2) = fun z H2 => nx (σ.set i (some z)) H2 := by
    funext z H2
    rw [setN_eq h hN]
  rw [e1] at q
  exact q
theorem ip_addI {i j : Int} (q : Q (.int (i + j)) H) : RIp X .Add (.int i) (.int j) H Q := rip_of ip_add ⟨i, j, rfl, rfl, q⟩
/-- isinstance -/
theorem b_isi {x c : V} {t u : Value} {b : Bool} (hc : ClsV c u) (ht : TyX X.K H x t) (hk : PySem.W.kitOne X.K t u = some b) (q : Q (.bl b) H) : RC X (.builtin "isinstance") [x, c] H Q := rc_of call_isi ⟨x, c, t, u, b, rfl, hc, ht, hk, q⟩
theorem b_isiInt {i : Int} {T : String} {b : Bool} (hk : kitB "int" T = some b) (q : Q (.bl b) H) : RC X (.builtin "isinstance") [.int i, .ty T] H Q := b_isi (.ty T) (.base (.int i)) (kit_ty hk) q
theorem b_isiTup {p : Addr} {xs : List V} {b : Bool} {T : String} (hp : H p = some (.tup xs)) (hk : kitB "tuple" T = some b) (q : Q (.bl b) H) : RC X (.builtin "isinstance") [.ref p, .ty T] H Q := b_isi (.ty T) (.base (.tup hp)) (kit_ty hk) q
theorem b_isiTupQ {p : Addr} {xs : List V} {b : Bool} {T : String} (hp : SqT X.K H p xs) (hk : kitB "tuple" T = some b) (q : Q (.bl b) H) : RC X (.builtin "isinstance") [.ref p, .ty T] H Q := by
  rcases hp with (hp | ⟨o, hp⟩) | ⟨o, us, n, hl, hc, _⟩
  · exact b_isiTup hp hk q
  · exact b_isi (.ty T) (.fTuple hp) (kit_ty hk) q
  · exact b_isi (.ty T) (.kTuple hl hc) (kit_ty hk) q
structure PropOk (P : Program) (w : World) (K : PySem.W.Frag) (mg : Str → Option Value) (base : Heap) (C : Addr) (x : Str) (k : Nat) (ps : List Str) (sp : Sp) : Prop where
  ex : ∃ (p g : Addr) (fd : FuncData), PropOf K C x p g ∧ FnOk P w K mg base CX0 k g fd ps sp ∧ Binds K fd ps []
theorem e_propOk {e : Expr} {x : Str} {pos : Pos} {σ : St} (M : PropOk X.prog X.w X.K X.mg X.base C x k ps sp) (c : Cls X.K C) (hr : Room (k + 1) X.A) (hab : attributeBase e x X.env (eval e X.env) = eval e X.env)
    (q : RE X e σ H fun v H1 => ∃ a dx fs, v = .ref a ∧ H1 a = some (.ins C dx fs) ∧ sp [.ref a] H1 Q E0) : RE X (.Attribute e x pos) σ H Q := by
  obtain ⟨p, g, fd, hp, F, hb⟩ := M.ex
  exact e_prop c hp F hr hb hab q
theorem exObj {A : Addr → Prop} (ha : H a = some (.ins C dx fs)) (q : A a) : ∃ a' dx fs, V.ref a = .ref a' ∧ H a' = some (.ins C dx fs) ∧ A a' := ⟨a, dx, fs, rfl, ha, q⟩
theorem exMeth {A : Prop} (ha : H a = some (.ins C dx fs)) (hl : fs.lookup m = none) (q : A) : ∃ a' dx fs, V.ref a = .ref a' ∧ H a' = some (.ins C dx fs) ∧ fs.lookup m = none ∧ A := ⟨a, dx, fs, rfl, ha, hl, q⟩
theorem b_isiOwn (c : C8.InsC X.K C) (ea : H a = some (.ins C dx fs)) (q : Q (.bl true) H) : RC X (.builtin "isinstance") [.ref a, .ref C] H Q := rc_of (C8.call_isC c) ⟨a, dx, fs, rfl, ea, q⟩
end
end Sx

end
section -- Mx
set_option maxHeartbeats 4000000
/-! ascending lists of numbers -/
namespace Mx
theorem asc_len : ∀ {row : List Nat} {n : Nat}, row.Pairwise (· < ·) → (∀ k ∈ row, k < n) → row.length ≤ n := by
  intro row n h1 h2
  have nd : row.Nodup := h1.imp (fun h => Nat.ne_of_lt h)
  have := List.Nodup.length_le_of_subset nd (l₂ := List.range n) (fun k hk => List.mem_range.mpr (h2 k hk))
  rwa [List.length_range] at this
/-- two ascending lists with the same members are one -/
theorem asc_ext : ∀ {a b : List Nat}, a.Pairwise (· < ·) → b.Pairwise (· < ·) → (∀ k, k ∈ a ↔ k ∈ b) → a = b
  | [], [], _, _, _ => rfl
  | [], y :: b, _, _, h => absurd ((h y).mpr (by simp)) (by simp)
  | x :: a, [], _, _, h => absurd ((h x).mp (by simp)) (by simp)
  | x :: a, y :: b, ha, hb, h => by
    rw [List.pairwise_cons] at ha hb
    have exy : x = y := by
      rcases List.mem_cons.mp ((h x).mp (by simp)) with e | e
      · exact e
      · rcases List.mem_cons.mp ((h y).mpr (by simp)) with e' | e'
        · exact e'.symm
        · have h1 := hb.1 x e
          have h2 := ha.1 y e'
          omega
    subst exy
    rw [asc_ext ha.2 hb.2 fun k => ?_]
    constructor
    · intro hk
      rcases List.mem_cons.mp ((h k).mp (List.mem_cons_of_mem _ hk)) with e | e
      · subst e
        exact absurd (ha.1 k hk) (Nat.lt_irrefl _)
      · exact e
    · intro hk
      rcases List.mem_cons.mp ((h k).mpr (List.mem_cons_of_mem _ hk)) with e | e
      · subst e
        exact absurd (hb.1 k hk) (Nat.lt_irrefl _)
      · exact e
/-- the numbers below n with p, ascending -/
theorem asc_filter (n : Nat) (p : Nat → Bool) : ((List.range n).filter p).Pairwise (· < ·) := List.Pairwise.filter _ List.pairwise_lt_range
theorem mem_filter_range {n k : Nat} {p : Nat → Bool} : k ∈ (List.range n).filter p ↔ k < n ∧ p k = true := by
  rw [List.mem_filter, List.mem_range]
end Mx

end
section -- Bx
set_option maxRecDepth 100000
set_option maxHeartbeats 4000000
namespace Mx
/-! ### sets of hours as numbers -/
def maskN (hs : List Nat) : Nat := hs.foldl (fun m h => m ||| 1 <<< h) 0
def bitsL (m : Nat) : List Nat := (List.range (m.log2 + 1)).filter fun k => m.testBit k
theorem testBit_one_shl (h k : Nat) : (1 <<< h).testBit k = decide (h = k) := by
  rw [Nat.testBit_shiftLeft]
  by_cases e : h = k
  · subst e
    simp
  · by_cases l : h ≤ k
    · have : k - h ≠ 0 := by omega
      have h2 : Nat.testBit 1 (k - h) = false := Nat.testBit_lt_two_pow (by have := Nat.one_lt_two_pow (n := k - h) this; omega)
      simp [e, l, h2]
    · simp [e, l]
theorem testBit_fold (hs : List Nat) : ∀ (m k : Nat), (hs.foldl (fun m h => m ||| 1 <<< h) m).testBit k = (m.testBit k || decide (k ∈ hs)) := by
  induction hs with
  | nil => intro m k; simp
  | cons h t ih =>
    intro m k
    rw [List.foldl_cons, ih, Nat.testBit_or, testBit_one_shl]
    by_cases e : h = k
    · subst e; simp
    · have e' : k ≠ h := fun z => e z.symm
      simp [e, e']
theorem testBit_maskN (hs : List Nat) (k : Nat) : (maskN hs).testBit k = decide (k ∈ hs) := by
  unfold maskN
  rw [testBit_fold]
  simp
theorem lt_of_testBit {m k : Nat} (h : m.testBit k = true) : k < m.log2 + 1 := by
  have h1 := Nat.ge_two_pow_of_testBit h
  have h2 : m ≠ 0 := by
    have := Nat.two_pow_pos k
    omega
  have := (Nat.le_log2 h2).mpr h1
  omega
theorem mem_bitsL {m k : Nat} : k ∈ bitsL m ↔ m.testBit k = true := by
  unfold bitsL
  rw [mem_filter_range]
  exact ⟨fun h => h.2, fun h => ⟨lt_of_testBit h, h⟩⟩
theorem asc_bitsL (m : Nat) : (bitsL m).Pairwise (· < ·) := asc_filter _ _
theorem bitsL_maskN {row : List Nat} (h : row.Pairwise (· < ·)) : bitsL (maskN row) = row :=
  asc_ext (asc_bitsL _) h fun k => by rw [mem_bitsL, testBit_maskN, decide_eq_true_eq]
theorem maskN_bitsL (m : Nat) : maskN (bitsL m) = m := Nat.eq_of_testBit_eq fun k => by
  rw [testBit_maskN]
  by_cases h : m.testBit k = true
  · rw [h, decide_eq_true (mem_bitsL.mpr h)]
  · rw [decide_eq_false (fun z => h (mem_bitsL.mp z))]
    simpa using h
theorem bits_lt {m n k : Nat} (hm : m < 2 ^ n) (h : m.testBit k = true) : k < n := by
  rcases Nat.lt_or_ge k n with z | z
  · exact z
  · rw [Nat.testBit_lt_two_pow (Nat.lt_of_lt_of_le hm (Nat.pow_le_pow_right (by decide) z))] at h
    cases h
theorem lt_of_bits {m n : Nat} (h : ∀ k, m.testBit k = true → k < n) : m < 2 ^ n :=
  Nat.lt_pow_two_of_testBit m fun i hi => by
    cases e : m.testBit i with
    | false => rfl
    | true => exact absurd (h i e) (by omega)
theorem maskN_lt {row : List Nat} {n : Nat} (h : ∀ k ∈ row, k < n) : maskN row < 2 ^ n := lt_of_bits fun k hk => by
  rw [testBit_maskN, decide_eq_true_eq] at hk
  exact h k hk
/-- hours from n to 2 n taken by their remainder -/
def wrapN (n m : Nat) : Nat := (m ||| m >>> n) &&& (1 <<< n - 1)
theorem testBit_wrapN (n m k : Nat) : (wrapN n m).testBit k = (decide (k < n) && (m.testBit k || m.testBit (n + k))) := by
  unfold wrapN
  rw [Nat.testBit_and, Nat.testBit_or, Nat.testBit_shiftRight, Nat.one_shiftLeft, Nat.testBit_two_pow_sub_one, Bool.and_comm]
theorem wrapN_lt (n m : Nat) : wrapN n m < 2 ^ n := lt_of_bits fun k hk => by
  rw [testBit_wrapN] at hk
  simp at hk
  exact hk.1
/-- sums of a mask and hours -/
def orShl (one : Nat) (hs : List Nat) : Nat := hs.foldl (fun t h => t ||| one <<< h) 0
theorem testBit_orShl_aux (one : Nat) (hs : List Nat) : ∀ t k : Nat, (hs.foldl (fun t h => t ||| one <<< h) t).testBit k = true ↔ (t.testBit k = true ∨ ∃ h ∈ hs, h ≤ k ∧ one.testBit (k - h) = true) := by
  induction hs with
  | nil => intro t k; simp
  | cons h r ih =>
    intro t k
    rw [List.foldl_cons, ih, Nat.testBit_or, Nat.testBit_shiftLeft]
    simp only [Bool.or_eq_true, Bool.and_eq_true, decide_eq_true_eq, List.mem_cons]
    constructor
    · rintro ((h1 | h1) | ⟨x, hx, h2⟩)
      · exact .inl h1
      · exact .inr ⟨h, .inl rfl, h1.1, h1.2⟩
      · exact .inr ⟨x, .inr hx, h2⟩
    · rintro (h1 | ⟨x, hx, h2⟩)
      · exact .inl (.inl h1)
      · rcases hx with rfl | hx
        · exact .inl (.inr ⟨h2.1, h2.2⟩)
        · exact .inr ⟨x, hx, h2⟩
theorem testBit_orShl (one : Nat) (hs : List Nat) (k : Nat) : (orShl one hs).testBit k = true ↔ ∃ h ∈ hs, h ≤ k ∧ one.testBit (k - h) = true := by
  unfold orShl
  rw [testBit_orShl_aux]
  simp
def sumsN (n one other : Nat) : Nat := wrapN n (orShl one (bitsL other))
/-- the sums of two rows of hours -/
theorem mem_sums {n : Nat} {a b : List Nat} (ha : ∀ k ∈ a, k < n) (hb : ∀ k ∈ b, k < n) (k : Nat) : k ∈ bitsL (sumsN n (maskN a) (maskN b)) ↔ ∃ x ∈ a, ∃ y ∈ b, (x + y) % n = k ∧ k < n := by
  rw [mem_bitsL]
  unfold sumsN
  rw [testBit_wrapN]
  simp only [Bool.and_eq_true, Bool.or_eq_true, decide_eq_true_eq, testBit_orShl, mem_bitsL, testBit_maskN]
  constructor
  · rintro ⟨hk, (⟨y, hy, hle, hx⟩ | ⟨y, hy, hle, hx⟩)⟩
    · exact ⟨k - y, hx, y, hy, by rw [Nat.sub_add_cancel hle, Nat.mod_eq_of_lt hk], hk⟩
    · exact ⟨n + k - y, hx, y, hy, by rw [Nat.sub_add_cancel hle, Nat.add_mod_left, Nat.mod_eq_of_lt hk], hk⟩
  · rintro ⟨x, hx, y, hy, e, hk⟩
    have h1 := ha x hx
    have h2 := hb y hy
    refine ⟨hk, ?_⟩
    by_cases l : x + y < n
    · rw [Nat.mod_eq_of_lt l] at e
      exact .inl ⟨y, hy, by omega, by rw [show k - y = x by omega]; exact hx⟩
    · have e' : x + y - n = k := by
        rw [Nat.mod_eq_sub_mod (by omega), Nat.mod_eq_of_lt (by omega)] at e
        exact e
      exact .inr ⟨y, hy, by omega, by rw [show n + k - y = x by omega]; exact hx⟩
/-- moved -/
def turnN (n m : Nat) (by_ : Nat) : Nat := wrapN n (m <<< by_)
theorem mem_turn {n b : Nat} {a : List Nat} (ha : ∀ k ∈ a, k < n) (hb : b < n) (k : Nat) : k ∈ bitsL (turnN n (maskN a) b) ↔ ∃ x ∈ a, (x + b) % n = k ∧ k < n := by
  rw [mem_bitsL]
  unfold turnN
  rw [testBit_wrapN, Nat.testBit_shiftLeft, Nat.testBit_shiftLeft]
  simp only [Bool.and_eq_true, Bool.or_eq_true, decide_eq_true_eq, testBit_maskN]
  constructor
  · rintro ⟨hk, (⟨hle, hx⟩ | ⟨hle, hx⟩)⟩
    · exact ⟨k - b, hx, by rw [Nat.sub_add_cancel hle, Nat.mod_eq_of_lt hk], hk⟩
    · exact ⟨n + k - b, hx, by rw [Nat.sub_add_cancel hle, Nat.add_mod_left, Nat.mod_eq_of_lt hk], hk⟩
  · rintro ⟨x, hx, e, hk⟩
    have h1 := ha x hx
    refine ⟨hk, ?_⟩
    by_cases l : x + b < n
    · rw [Nat.mod_eq_of_lt l] at e
      exact .inl ⟨by omega, by rw [show k - b = x by omega]; exact hx⟩
    · have e' : x + b - n = k := by
        rw [Nat.mod_eq_sub_mod (by omega), Nat.mod_eq_of_lt (by omega)] at e
        exact e
      exact .inr ⟨by omega, by rw [show n + k - b = x by omega]; exact hx⟩
theorem mem_or {a b : List Nat} (k : Nat) : k ∈ bitsL (maskN a ||| maskN b) ↔ k ∈ a ∨ k ∈ b := by
  rw [mem_bitsL, Nat.testBit_or, testBit_maskN, testBit_maskN]
  simp
theorem mem_and {a b : List Nat} (k : Nat) : k ∈ bitsL (maskN a &&& maskN b) ↔ k ∈ a ∧ k ∈ b := by
  rw [mem_bitsL, Nat.testBit_and, testBit_maskN, testBit_maskN]
  simp
theorem mem_xor {n : Nat} {a : List Nat} (ha : ∀ k ∈ a, k < n) (k : Nat) : k ∈ bitsL (maskN a ^^^ (1 <<< n - 1)) ↔ k < n ∧ k ∉ a := by
  rw [mem_bitsL, Nat.testBit_xor, testBit_maskN, Nat.one_shiftLeft, Nat.testBit_two_pow_sub_one]
  by_cases h1 : k ∈ a
  · simp [h1, ha k h1]
  · simp [h1]
theorem mem_mask {hs : List Nat} (k : Nat) : k ∈ bitsL (maskN hs) ↔ k ∈ hs := by
  rw [mem_bitsL, testBit_maskN, decide_eq_true_eq]
end Mx
namespace Sx
open PySem PySem.Spec L2
open PyProof.Rows hiding St
section
variable {X : Cx} {a b : Nat} {H : Hp} {Q : VK} {QB : Bool → Hp → Prop}
theorem o_orN (q : Q (.int ((a ||| b : Nat) : Int)) H) : RO X (binaryOp .BitOr) (.int (a : Int)) (.int (b : Int)) H Q := o_or (by rw [Bits.bitOr_pp (Int.natCast_nonneg _) (Int.natCast_nonneg _)]; exact q)
theorem o_andN (q : Q (.int ((a &&& b : Nat) : Int)) H) : RO X (binaryOp .BitAnd) (.int (a : Int)) (.int (b : Int)) H Q := o_and (by rw [bitAnd_pp (Int.natCast_nonneg _) (Int.natCast_nonneg _)]; exact q)
theorem o_andOne (q : Q (.int ((a &&& 1 : Nat) : Int)) H) : RO X (binaryOp .BitAnd) (.int (a : Int)) (.int 1) H Q := o_andN (b := 1) q
theorem bit_dec (m i : Nat) : decide ((m >>> i &&& 1) ≠ 0) = m.testBit i := by
  show decide _ = ((1 &&& (m >>> i)) != 0)
  rw [Nat.and_comm]
  by_cases h : (1 &&& m >>> i) = 0
  · rw [h]; rfl
  · rw [decide_eq_true h]; exact (bne_iff_ne.mpr h).symm
theorem o_xorN (q : Q (.int ((a ^^^ b : Nat) : Int)) H) : RO X (binaryOp .BitXor) (.int (a : Int)) (.int (b : Int)) H Q := o_xor (by rw [Bits.bitXor_pp (Int.natCast_nonneg _) (Int.natCast_nonneg _)]; exact q)
theorem o_shrN (q : Q (.int ((a >>> b : Nat) : Int)) H) : RO X (binaryOp .RShift) (.int (a : Int)) (.int (b : Int)) H Q := o_shr (Int.natCast_nonneg _) (by
  rw [Int.toNat_natCast, show ((a : Int) / 2 ^ b) = ((a >>> b : Nat) : Int) by rw [Nat.shiftRight_eq_div_pow, Int.natCast_ediv, Int.natCast_pow]; rfl]
  exact q)
theorem o_shlN {n : Nat} (ha : a < 2 ^ n) (hb : n + b ≤ 134217728) (q : Q (.int ((a <<< b : Nat) : Int)) H) : RO X (binaryOp .LShift) (.int (a : Int)) (.int (b : Int)) H Q := o_shl (shl_ok (n := n) (by simpa using ha) hb) (by
  rw [Int.toNat_natCast, show ((a : Int) * 2 ^ b) = ((a <<< b : Nat) : Int) by rw [Nat.shiftLeft_eq, Int.natCast_mul, Int.natCast_pow]; rfl]
  exact q)
theorem o_oneShl (hb : b ≤ 1000000) (q : Q (.int ((1 <<< b : Nat) : Int)) H) : RO X (binaryOp .LShift) (.int 1) (.int (b : Int)) H Q := o_shlN (a := 1) (n := 1) (by decide) (by omega) q
theorem tr_nat (q : QB (decide (a ≠ 0)) H) : RTru X (.int (a : Int)) H QB := tr_int (by
  have e : ((a : Int) != 0) = decide (a ≠ 0) := by
    by_cases h : a = 0
    · subst h; rfl
    · have : (a : Int) ≠ 0 := by omega
      simp [h, this]
  rw [e]
  exact q)
end
end Sx

end
section -- Pk
set_option maxRecDepth 100000
set_option maxHeartbeats 8000000
local macro_rules | `(tactic| wtm_at "sx.vis") => `(tactic| first | exact Or.inl rfl | exact Or.inr (Or.inl rfl) | exact Or.inr (Or.inr rfl))
local macro_rules | `(tactic| wtm_at "sx.loc") => `(tactic| first | exact Or.inl rfl | exact Or.inr rfl)
local macro_rules | `(tactic| wtm_at "sx.nd") => `(tactic| first | assumption | decide +kernel)
-- what stands at an address
local macro_rules | `(tactic| wtm_at "ne") => `(tactic| first | (with_reducible assumption) | (refine Ne.symm ?_; (with_reducible assumption)))
local macro_rules | `(tactic| wtm_at "hp") => `(tactic| first
  | (with_reducible assumption)
  | exact L2.upd_same
  | ((refine Sx.updN (by with_reducible assumption) ?_); wtm_at "hp")
  | ((refine Sx.updNe (by wtm_at "ne") ?_); wtm_at "hp")
  | ((refine (by with_reducible assumption : Sx.Grow _ _) _ _ ?_); wtm_at "hp"))
local macro_rules | `(tactic| wtm_at "sql") => `(tactic| first
  | assumption
  | exact L2.SqL.of (by wtm_at "hp")
  | ((refine Sx.sq_updN (by with_reducible assumption) ?_); wtm_at "sql")
  | ((refine Sx.sq_new (by with_reducible assumption) ?_); wtm_at "sql"))
local macro_rules | `(tactic| wtm_at "sqt") => `(tactic| first
  | assumption
  | exact L2.SqT.of (by wtm_at "hp")
  | ((refine Sx.st_updN (by with_reducible assumption) ?_); wtm_at "sqt")
  | ((refine Sx.st_new (by with_reducible assumption) ?_); wtm_at "sqt"))
-- expressions
local macro_rules | `(tactic| wtm_at "sx.e") => `(tactic| first
  | with_reducible refine Sx.e_int ?_
  | with_reducible refine Sx.e_bl ?_
  | with_reducible refine Sx.e_non ?_
  | with_reducible refine Sx.e_str ?_
  | ((with_reducible show Sx.RE _ (PySem.Expr.Name _ _) _ _ _); refine Sx.e_name rfl (by wtm_at "sx.vis") (by decide) (by decide) ?_)
  | ((with_reducible show Sx.RE _ (PySem.Expr.Name "int" _) _ _ _); refine Sx.e_bltn (v := .ty "int") rfl (Sx.Blt.int (by assumption)) (by decide +kernel) rfl (by decide) (by decide) ?_)
  | ((with_reducible show Sx.RE _ (PySem.Expr.Name "bool" _) _ _ _); refine Sx.e_bltn (v := .ty "bool") rfl (Sx.Blt.bool (by assumption)) (by decide +kernel) rfl (by decide) (by decide) ?_)
  | ((with_reducible show Sx.RE _ (PySem.Expr.Name "tuple" _) _ _ _); refine Sx.e_bltn (v := .ty "tuple") rfl (Sx.Blt.tuple (by assumption)) (by decide +kernel) rfl (by decide) (by decide) ?_)
  | ((with_reducible show Sx.RE _ (PySem.Expr.Name "str" _) _ _ _); refine Sx.e_bltn (v := .ty "str") rfl (Sx.Blt.str (by assumption)) (by decide +kernel) rfl (by decide) (by decide) ?_)
  | ((with_reducible show Sx.RE _ (PySem.Expr.Name "list" _) _ _ _); refine Sx.e_bltn (v := .ty "list") rfl (Sx.Blt.list (by assumption)) (by decide +kernel) rfl (by decide) (by decide) ?_)
  | ((with_reducible show Sx.RE _ (PySem.Expr.Call (PySem.Expr.Attribute _ "bit_length" _) [] [] _) _ _ _); refine Sx.e_bits rfl rfl ?_)
  | ((with_reducible show Sx.RE _ (PySem.Expr.Attribute _ "_clock" _) _ _ _); refine Sx.e_fld rfl ?_)
  | ((with_reducible show Sx.RE _ (PySem.Expr.Attribute _ "_hours" _) _ _ _); refine Sx.e_fld rfl ?_)
  | ((with_reducible show Sx.RE _ (PySem.Expr.Attribute _ "_mask" _) _ _ _); refine Sx.e_fld rfl ?_)
  | with_reducible refine Sx.e_bin ?_
  | with_reducible refine Sx.e_not ?_
  | with_reducible refine Sx.e_un ?_
  | ((with_reducible refine Sx.e_cmp ?_ ?_); (next => first | rfl | exact L2.nomark _))
  | with_reducible refine Sx.e_one ?_
  | ((with_reducible show Sx.RE _ (PySem.Expr.Compare _ [_, _] [_, _] _) _ _ _); refine Sx.e_chain (by with_unfolding_all rfl) ?_)
  | with_reducible refine Sx.e_and ?_
  | with_reducible refine Sx.e_or ?_
  | with_reducible refine Sx.e_if ?_
  | with_reducible refine Sx.e_tup ?_
  | with_reducible refine Sx.e_lst ?_
  | with_reducible refine Sx.e_sl ?_
  | ((with_reducible refine Sx.e_ix ?_ ?_); (next => exact fun _ _ => rfl))
  | wtm_at "sx.blt")
local macro_rules | `(tactic| wtm_at "sx.a") => `(tactic| first
  | with_reducible refine Sx.a_nil ?_
  | ((with_reducible refine Sx.a_cons ?_ ?_); (next => rfl)))
local macro_rules | `(tactic| wtm_at "sx.t") => `(tactic| first
  | ((with_reducible refine Sx.t_cmp ?_ ?_); (next => first | rfl | exact L2.nomark _))
  | with_reducible refine Sx.t_not ?_
  | with_reducible refine Sx.w_and ?_
  | with_reducible refine Sx.w_and1 ?_
  | with_reducible refine Sx.w_or ?_
  | with_reducible refine Sx.w_or1 ?_
  | (with_reducible refine Sx.t_pw (e := .BoolOp _ _ _) ?_)
  | ((with_reducible refine Sx.t_val ?_ ?_); (next => (intro _; rfl))))
local macro_rules | `(tactic| wtm_at "sx.s") => `(tactic| first
  | with_reducible refine Sx.ss_nil ?_
  | with_reducible refine Sx.ss_cons ?_
  | with_reducible refine Sx.s_pass ?_
  | with_reducible refine Sx.s_break ?_
  | with_reducible refine Sx.s_continue ?_
  | with_reducible refine Sx.s_ret ?_
  | with_reducible refine Sx.s_retN ?_
  | with_reducible refine Sx.s_if ?_
  | ((with_reducible refine Sx.s_expr ?_ ?_); (next => rfl))
  | ((with_reducible refine Sx.s_set ?_ ?_ ?_ ?_ ?_ ?_); (next => wtm_at "sx.nd"); (next => rfl); (next => wtm_at "sx.loc"); (next => exact .inl rfl); (next => rfl))
  | ((with_reducible refine Sx.s_fld ?_ ?_); (next => rfl))
  | ((with_reducible refine Sx.s_asg ?_ ?_ ?_ ?_); (next => rfl); (next => rfl); (next => rfl))
  | ((with_reducible show Sx.RSs _ _ _ _ _); refine Sx.ss_cons ?_))
local macro_rules | `(tactic| wtm_at "sx.g") => `(tactic| first
  | ((with_reducible refine Sx.g_name ?_ ?_ ?_ ?_ ?_); (next => wtm_at "sx.nd"); (next => rfl); (next => wtm_at "sx.loc"); (next => exact .inl rfl))
  | ((with_reducible show Sx.RG _ (PySem.Expr.Tuple _ _ _) _ _ _ _); refine Sx.g_tup rfl rfl rfl (by wtm_at "sqt") rfl ?_)
  | with_reducible refine Sx.gs_nil ?_
  | ((with_reducible refine Sx.gs_cons ?_ ?_); (next => rfl))
  | ((with_reducible refine Sx.g_sub ?_ ?_); (next => (intro _; rfl))))
-- values
local macro_rules | `(tactic| wtm_at "sx.v") => `(tactic| first
  | with_reducible refine Sx.o_add ?_
  | with_reducible refine Sx.o_sub ?_
  | with_reducible refine Sx.u_neg ?_
  | with_reducible refine Sx.o_orN ?_
  | with_reducible refine Sx.o_andN ?_
  | with_reducible refine Sx.o_andOne ?_
  | with_reducible refine Sx.o_xorN ?_
  | with_reducible refine Sx.o_shrN ?_
  | ((with_reducible refine Sx.o_oneShl ?_ ?_); (next => omega))
  | with_reducible refine Sx.tr_nat ?_
  | with_reducible refine Sx.ip_addI ?_
  | with_reducible refine Sx.u_inv ?_
  | ((with_reducible refine Sx.o_mod ?_ ?_); (next => first | decide | assumption | omega))
  | with_reducible refine Sx.c_lt ?_
  | with_reducible refine Sx.c_le ?_
  | with_reducible refine Sx.c_gt ?_
  | with_reducible refine Sx.c_ge ?_
  | with_reducible refine Sx.c_eqI ?_
  | with_reducible refine Sx.c_neI ?_
  | with_reducible refine Sx.c_eqS ?_
  | with_reducible refine Sx.c_neS ?_
  | with_reducible refine Sx.c_eqB ?_
  | with_reducible refine Sx.c_neB ?_
  | with_reducible refine Sx.c_isN ?_
  | with_reducible refine Sx.c_notN ?_
  | with_reducible refine Sx.tr_bl ?_
  | with_reducible refine Sx.tr_int ?_
  | with_reducible refine Sx.b_int ?_
  | ((with_reducible show Sx.RC _ (PySem.Value.builtin "isinstance") [L2.V.int _, L2.V.ty _] _ _); (first | refine Sx.b_isiInt (b := true) (by decide +kernel) ?_ | refine Sx.b_isiInt (b := false) (by decide +kernel) ?_))
  | ((with_reducible show Sx.RC _ (PySem.Value.builtin "isinstance") [L2.V.ref _, L2.V.ty _] _ _); (first | refine Sx.b_isiTupQ (b := true) (by wtm_at "sqt") (by decide +kernel) ?_ | refine Sx.b_isiTupQ (b := false) (by wtm_at "sqt") (by decide +kernel) ?_))
  | ((with_reducible show Sx.RSl _ (L2.V.ref _) _ _ _ _); refine Sx.sl_l (by wtm_at "sql") ?_)
  | ((with_reducible show Sx.RO _ (PySem.binaryOp .Add) (L2.V.ref _) (L2.V.ref _) _ _); refine Sx.o_cat (by wtm_at "hp") (by wtm_at "hp") (by wtm_at "size") ?_)
  | ((with_reducible refine Sx.o_pow ?_ ?_); (next => decide))
  | ((with_reducible refine Sx.b_divmod ?_ ?_); (next => first | decide | (constructor <;> omega)))
  | ((with_reducible refine Sx.o_mul ?_ ?_); (next => first | exact Sx.mulL (by omega) (by omega) | exact Sx.mulR (by omega) (by omega)))
  | ((with_reducible refine Sx.o_fdiv30 ?_ ?_); (next => first | decide | (constructor <;> omega)))
  | with_reducible refine Sx.b_abs ?_
  | ((with_reducible refine Sx.b_max2 ?_ ?_); (next => rfl))
  | ((with_reducible refine Sx.b_min2 ?_ ?_); (next => rfl))
  | ((with_reducible show Sx.RC _ (PySem.Value.builtin "len") [L2.V.ref _] _ _); refine Sx.b_lenL (by wtm_at "sql") ?_)
  | ((with_reducible show Sx.RC _ (PySem.Value.builtin "len") [L2.V.ref _] _ _); refine Sx.b_lenT (by wtm_at "sqt") ?_)
  | ((with_reducible show Sx.RC _ (PySem.Value.type "tuple") [L2.V.ref _] _ _); refine Sx.b_tupL (by wtm_at "sql") ?_)
  | ((with_reducible show Sx.RC _ (PySem.Value.type "tuple") [L2.V.ref _] _ _); refine Sx.b_tupT (by wtm_at "sqt") ?_)
  | ((with_reducible show Sx.RC _ (PySem.Value.type "list") [L2.V.ref _] _ _); refine Sx.b_lstL (by wtm_at "sql") ?_)
  | ((with_reducible show Sx.RC _ (PySem.Value.type "list") [L2.V.ref _] _ _); refine Sx.b_lstT (by wtm_at "sqt") ?_)
  | ((with_reducible show Sx.RIx _ (L2.V.ref _) (L2.V.int (OfNat.ofNat _)) _ _); refine Sx.ix_lst (by wtm_at "sql") (by rfl) ?_)
  | ((with_reducible show Sx.RIx _ (L2.V.ref _) (L2.V.int (OfNat.ofNat _)) _ _); refine Sx.ix_tp (by wtm_at "sqt") (by rfl) ?_)
  | ((with_reducible show Sx.RSet _ (L2.V.ref _) (L2.V.int (OfNat.ofNat _)) _ _ _); refine Sx.set_lst (by wtm_at "hp") (by rfl) ?_))
-- left-overs
local macro_rules | `(tactic| wtm_at "size") => `(tactic| first
  | exact Nat.le_of_ble_eq_true rfl
  | exact Sx.size5 (by first | omega | (simp only [List.length_cons, List.length_nil, List.length_append, List.length_map, List.length_replicate]; omega))
  | exact Sx.size5l (by first | omega | (simp only [List.length_cons, List.length_nil, List.length_append, List.length_map, List.length_replicate]; omega)))
local macro_rules | `(tactic| wtm_at "sx.x") => `(tactic| first
  | (with_reducible refine Sx.exI ?_)
  | ((with_reducible show ∃ a C dx fs, L2.V.ref _ = L2.V.ref a ∧ _); refine Sx.exSet (by wtm_at "hp") (by assumption) (by assumption) (Sx.few1000 (by rfl)) ?_)
  | ((with_reducible show ∃ a C dx fs v, L2.V.ref _ = L2.V.ref a ∧ _); refine Sx.exFld (by wtm_at "hp") (by assumption) (by assumption) rfl ?_)
  | (with_reducible refine L2.iteT ?_)
  | (with_reducible refine Sx.brNt ?_)
  | (with_reducible refine Sx.brNf ?_)
  | (with_reducible refine L2.iteF ?_)
  | (with_reducible refine Sx.p_none ?_)
  | (with_reducible refine Sx.p_some ?_)
  | (with_reducible refine Sx.exB ?_)
  | ((with_reducible refine Sx.lenOk ?_ ?_); (next => exact Nat.le_of_ble_eq_true rfl))
  | ((with_reducible refine Sx.allMade ?_); intro x dx hx hdx hne)
  | ((with_reducible refine Sx.allNew ?_); intro p hp))
local macro_rules | `(tactic| wtm_at "room") => `(tactic| first | assumption | exact L2.Room.mono (by assumption) (by decide))
local macro_rules | `(tactic| wtm_at "br") => `(tactic| first | exact L2.iteT ?_ | exact L2.iteF ?_)
local macro_rules | `(tactic| wtm_at "sx.u") => `(tactic| ((with_reducible show Sx.RE _ (PySem.Expr.Call (PySem.Expr.Name _ _) (_ :: _) [] _) _ _ _); first | refine Sx.e_call (by assumption) (by wtm_at "room") rfl (by decide) rfl rfl ?_ | refine Sx.e_make (by assumption) (by wtm_at "room") rfl (by decide) rfl rfl ?_))
local macro_rules | `(tactic| wtm_at "sx.blt") => `(tactic| first
  | ((with_reducible refine Sx.e_b_len ?_ ?_ ?_ ?_ ?_); (next => assumption); (next => rfl); (next => rfl); (next => rfl))
  | ((with_reducible refine Sx.e_b_int ?_ ?_ ?_ ?_ ?_); (next => assumption); (next => rfl); (next => rfl); (next => rfl))
  | ((with_reducible refine Sx.e_b_abs ?_ ?_ ?_ ?_ ?_); (next => assumption); (next => rfl); (next => rfl); (next => rfl))
  | ((with_reducible refine Sx.e_b_tuple ?_ ?_ ?_ ?_ ?_); (next => assumption); (next => rfl); (next => rfl); (next => rfl))
  | ((with_reducible refine Sx.e_b_list ?_ ?_ ?_ ?_ ?_); (next => assumption); (next => rfl); (next => rfl); (next => rfl))
  | ((with_reducible refine Sx.e_b_set ?_ ?_ ?_ ?_ ?_); (next => assumption); (next => rfl); (next => rfl); (next => rfl))
  | ((with_reducible refine Sx.e_b_sorted ?_ ?_ ?_ ?_ ?_); (next => assumption); (next => rfl); (next => rfl); (next => rfl))
  | ((with_reducible refine Sx.e_b_all ?_ ?_ ?_ ?_ ?_); (next => assumption); (next => rfl); (next => rfl); (next => rfl))
  | ((with_reducible refine Sx.e_b_divmod ?_ ?_ ?_ ?_ ?_); (next => assumption); (next => rfl); (next => rfl); (next => rfl))
  | ((with_reducible refine Sx.e_b_isinstance ?_ ?_ ?_ ?_ ?_); (next => assumption); (next => rfl); (next => rfl); (next => rfl))
  | ((with_reducible refine Sx.e_b_str ?_ ?_ ?_ ?_ ?_); (next => assumption); (next => rfl); (next => rfl); (next => rfl))
  | ((with_reducible refine Sx.e_b_repr ?_ ?_ ?_ ?_ ?_); (next => assumption); (next => rfl); (next => rfl); (next => rfl))
  | ((with_reducible refine Sx.e_b_bool ?_ ?_ ?_ ?_ ?_); (next => assumption); (next => rfl); (next => rfl); (next => rfl))
  | ((with_reducible refine Sx.e_b_min ?_ ?_ ?_ ?_ ?_); (next => assumption); (next => rfl); (next => rfl); (next => rfl))
  | ((with_reducible refine Sx.e_b_max ?_ ?_ ?_ ?_ ?_); (next => assumption); (next => rfl); (next => rfl); (next => rfl))
  | ((with_reducible refine Sx.e_b_sum ?_ ?_ ?_ ?_ ?_); (next => assumption); (next => rfl); (next => rfl); (next => rfl)))
local macro_rules | `(tactic| wtm_at "sx1") => `(tactic| first | ((with_reducible show Sx.RE _ _ _ _ _); first | wtm_at "sx.e" | wtm_at "sx.u") | wtm_at "sx.a" | wtm_at "sx.v" | wtm_at "sx.t" | wtm_at "sx.s" | wtm_at "sx.g" | wtm_at "sx.x" | wtm_at "sx.u")
local macro_rules | `(tactic| wtm_at "sx") => `(tactic| (wtm_at "sx1"; repeat wtm_at "sx1"))
local macro_rules | `(tactic| wtm_at "forL") => `(tactic| refine Sx.s_forL (fun _ => rfl) PySem.PassesOwn.never rfl ?_)
local macro_rules | `(tactic| wtm_at "lcL") => `(tactic| refine Sx.e_lcL (Sx.at_idx rfl) rfl (by wtm_at "sx.nd") (by rfl) (by decide) (fun _ => rfl) ?_)
local macro_rules | `(tactic| wtm_at "forT") => `(tactic| refine Sx.s_forT (fun _ => rfl) PySem.PassesOwn.never rfl ?_)
local macro_rules | `(tactic| wtm_at "lcT") => `(tactic| refine Sx.e_lcT (Sx.at_idx rfl) rfl (by wtm_at "sx.nd") (by rfl) (by decide) (fun _ => rfl) ?_)
local macro_rules | `(tactic| wtm_at "forR1") => `(tactic| refine Sx.s_forR1 PySem.PassesOwn.never rfl (by assumption) rfl rfl ?_)
local macro_rules | `(tactic| wtm_at "lcR1") => `(tactic| refine Sx.e_lcR1 (Sx.at_idx rfl) rfl (by wtm_at "sx.nd") (by rfl) (by decide) (by assumption) rfl rfl ?_)
local macro_rules | `(tactic| wtm_at "forR2") => `(tactic| refine Sx.s_forR2 PySem.PassesOwn.never rfl (by assumption) rfl rfl rfl ?_)
local macro_rules | `(tactic| wtm_at "lcR2") => `(tactic| refine Sx.e_lcR2 (Sx.at_idx rfl) rfl (by wtm_at "sx.nd") (by rfl) (by decide) (by assumption) rfl rfl rfl ?_)
local macro_rules | `(tactic| wtm_at "lcn") => `(tactic| exact ⟨Sx.at_idx rfl, fun _ _ _ _ _ => (by wtm_at "sx.loc"), fun _ _ _ _ _ => (by wtm_at "sx.loc")⟩)
local macro_rules | `(tactic| wtm_at "norm") => `(tactic| (refine Sx.normS (σ' := ?_) (by (try simp only [Sx.setN]); exact rfl) ?_))
-- attributes
local macro_rules | `(tactic| wtm_at "fld") => `(tactic| ((with_reducible refine Sx.e_fld ?_ ?_); (next => rfl)))
local macro_rules | `(tactic| wtm_at "aug") => `(tactic| refine Sx.s_aug (by wtm_at "sx.nd") (by wtm_at "sx.loc") (.inl rfl) rfl ?_)
local macro_rules | `(tactic| wtm_at "forET") => `(tactic| refine Sx.s_forET PySem.PassesOwn.never rfl (by assumption) rfl rfl ?_)
local macro_rules | `(tactic| wtm_at "app") => `(tactic| ((with_reducible show Sx.RE _ (PySem.Expr.Call (PySem.Expr.Attribute _ "append" _) [_] [] _) _ _ _); refine Sx.e_append rfl rfl rfl rfl rfl ?_))
local macro_rules | `(tactic| wtm_at "sx.v2") => `(tactic| first
  | ((with_reducible show Sx.RO _ (PySem.binaryOp .Add) (L2.V.ref _) (L2.V.ref _) _ _); refine Sx.o_catT' (by wtm_at "sqt") (by wtm_at "sqt") (by wtm_at "size") ?_; intro p Hc gc hc)
  | ((with_reducible show Sx.RO _ (PySem.compareOp .In) (L2.V.int _) (L2.V.ref _) _ _); refine Sx.c_inT (by wtm_at "sqt") ?_)
  | ((with_reducible show Sx.RO _ (PySem.compareOp .NotIn) (L2.V.int _) (L2.V.ref _) _ _); refine Sx.c_notInT (by wtm_at "sqt") ?_))
local macro_rules | `(tactic| wtm_at "par3") => `(tactic| refine Sx.s_par3 rfl (by wtm_at "sx.nd") rfl rfl rfl (by decide) (by decide) (by decide) rfl rfl rfl rfl rfl ?_)
local macro_rules | `(tactic| wtm_at "par2") => `(tactic| refine Sx.s_par rfl (by wtm_at "sx.nd") rfl rfl (by decide) rfl rfl rfl rfl ?_)
-- runs on until an operator of two values stands first
local macro_rules | `(tactic| wtm_at "sxo") => `(tactic| repeat ((fail_if_success (with_reducible show Sx.RO _ _ _ _ _ _)); wtm_at "sx1"))
namespace Pk
open PySem L2 Sx Mx
def top (i : Nat) : Stmt := PySem.Challenge.pw_hoursums_k05_hours_added_and_joined.main.body.getD i (.Pass ⟨0, 0, 0, 0⟩)
/-! ### what the objects are -/
abbrev rowV (row : List Nat) : List V := row.map fun k : Nat => V.int k
structure Valid (n : Nat) (row : List Nat) : Prop where
  pos : 1 ≤ n
  le : n ≤ 240
  asc : row.Pairwise (· < ·)
  lt : ∀ k ∈ row, k < n
def flds (n : Nat) (t : Addr) (m : Nat) : List (Str × V) := [("_clock", .int n), ("_hours", .ref t), ("_mask", .int m)]
def HoursAt (K : PySem.W.Frag) (C : Addr) (H : Hp) (p : Addr) (n : Nat) (row : List Nat) : Prop := Valid n row ∧ ∃ (dx t : Addr), H p = some (.ins C dx (flds n t (maskN row))) ∧ SqT K H t (rowV row)
/-- what the text says of the class -/
structure Txt (K : PySem.W.Frag) (mg : Str → Option Value) (C : Addr) : Prop where
  B : Blt mg
  cl : Cls K C
  nC : NoAttr K C "_clock"
  nH : NoAttr K C "_hours"
  nM : NoAttr K C "_mask"
  most : ∃ tk, mg "MOST_HOURS" = some (.int 240 tk)
  gC : mg "Hours" = some (.ref C)
  ins : C8.InsC K C
  ops : Ops K C
  ne : PySem.W.findIn K (.ref C) "__ne__" = some (some (.builtin "object.__ne__"))
  ob : PySem.W.subIn K (.ref C) (.type "object") = some true
  rm : PySem.W.findIn K (.ref C) (dunderR Operator.Mult.info.2) = some none
  im : ∃ o, PySem.W.findIn K (.type "int") (PySem.dunder Operator.Mult.info.2) = some o
  ir : ∃ o, PySem.W.findIn K (.type "int") (dunderR Operator.Mult.info.2) = some o
  ci : PySem.W.subIn K (.type "int") (.ref C) = some false
section
variable {P : Program} {w : World} {K : PySem.W.Frag} {mg : Str → Option Value} {base : Heap}
abbrev Ca (P : Program) (w : World) (K : PySem.W.Frag) (mg : Str → Option Value) (base : Heap) := Callable P w K mg base
/-! ### checks -/
def spIsInt : Sp := fun vs H Q _ => ∃ i : Int, vs = [.int i] ∧ Q (.bl true) H
theorem scIsInt : FnScope ["value"] ["value"] (defScope (top 13)) := ⟨rfl, rfl, rfl, by decide +kernel, rfl, by decide +kernel, by decide +kernel⟩
theorem ok_is_integer {f : Addr} {fd : FuncData} (F : Fun K "is_integer" "is_integer" (top 13) f fd) (B : Blt mg) : FnOk P w K mg base CX0 1 f fd ["value"] spIsInt := by
  refine F.ok scIsInt (fun vs H Q E h => ?_) (fun cdv A outer s H vs Q E hr h => ?_)
  · obtain ⟨i, rfl, _⟩ := h
    rfl
  · obtain ⟨i, rfl, k⟩ := h
    have nd := scIsInt.nd
    refine ⟨_, rss _, ?_⟩
    wtm_at "sx"
    exact k
def spIsHour : Sp := fun vs H Q _ => ∃ n i : Int, vs = [.int n, .int i] ∧ Q (.bl (decide (0 ≤ i ∧ i < n))) H
theorem scIsHour : FnScope ["clock", "value"] ["clock", "value"] (defScope (top 14)) := ⟨rfl, rfl, rfl, by decide +kernel, rfl, by decide +kernel, by decide +kernel⟩
theorem ok_is_hour {f : Addr} {fd : FuncData} (F : Fun K "is_hour" "is_hour" (top 14) f fd) (B : Blt mg) (c1 : Ca P w K mg base "is_integer" 1 ["value"] spIsInt) : FnOk P w K mg base CX0 2 f fd ["clock", "value"] spIsHour := by
  refine F.ok scIsHour (fun vs H Q E h => ?_) (fun cdv A outer s H vs Q E hr h => ?_)
  · obtain ⟨n, i, rfl, _⟩ := h
    rfl
  · obtain ⟨n, i, rfl, k⟩ := h
    have nd := scIsHour.nd
    refine ⟨_, rss _, ?_⟩
    wtm_at "sx"
    refine ⟨_, rfl, ?_⟩
    wtm_at "sx"
    refine brD (fun h1 => ?_) (fun h1 => ?_)
    · wtm_at "sx"
      rw [show decide (i < n) = decide (0 ≤ i ∧ i < n) by simp [h1]]
      exact k
    · rw [show decide (0 ≤ i ∧ i < n) = false by simp [h1]] at k
      exact k
/-- the hours ascend on the clock -/
def spWrong (K : PySem.W.Frag) : Sp := fun vs H Q _ => ∃ (n : Nat) (t : Addr) (row : List Nat), vs = [.int n, .ref t] ∧ SqT K H t (rowV row) ∧ Valid n row ∧ ∀ H', Grow H H' → Q .non H'
theorem scWrong : FnScope ["clock", "hours", "before", "index", "hour"] ["clock", "hours"] (defScope (top 15)) := ⟨rfl, rfl, rfl, by decide +kernel, rfl, by decide +kernel, by decide +kernel⟩
theorem ok_wrong {f : Addr} {fd : FuncData} (F : Fun K "wrong_index" "wrong_index" (top 15) f fd) (B : Blt mg) (c1 : Ca P w K mg base "is_hour" 2 ["clock", "value"] spIsHour) : FnOk P w K mg base CX0 3 f fd ["clock", "hours"] (spWrong K) := by
  refine F.ok scWrong (fun vs H Q E h => ?_) (fun cdv A outer s H vs Q E hr h => ?_)
  · obtain ⟨n, t, row, rfl, _⟩ := h
    rfl
  · obtain ⟨n, t, row, rfl, ht, hv, k⟩ := h
    have nd := scWrong.nd
    refine ⟨_, rss _, ?_⟩
    wtm_at "sx"
    wtm_at "forET"
    wtm_at "sx"
    refine forET ht (fun i σ H2 => ∃ (b : Int) (v3 v4 : Option V), σ = [some (.int n), some (.ref t), some (.int b), v3, v4] ∧ (∀ k ∈ row.drop i, b < (k : Int)) ∧ Grow H H2) ?_ ?_ ?_ ?_
    · exact ⟨-1, none, none, rfl, fun k _ => by omega, Grow.refl H⟩
    · exact fun i σ H2 _ ⟨_, _, _, _, _, g⟩ => st_new g ht
    · intro i x σ H2 T hx ⟨b, v3, v4, e, hb, g⟩ hT
      subst e
      rw [List.getElem?_map] at hx
      obtain ⟨y, hy, rfl⟩ := Option.map_eq_some_iff.mp hx
      obtain ⟨hi, hy'⟩ := List.getElem?_eq_some_iff.mp hy
      have hd : row.drop i = y :: row.drop (i + 1) := by rw [List.drop_eq_getElem_cons hi, hy']
      have hlt : b < (y : Int) := hb y (by rw [hd]; exact List.mem_cons_self ..)
      have hn : y < n := hv.lt y (List.mem_of_getElem? hy)
      wtm_at "sx"
      refine ⟨n, y, rfl, ?_⟩
      wtm_at "sx"
      refine brNF (by omega) ?_
      wtm_at "sx"
      refine brDF (by omega) ?_
      wtm_at "sx"
      refine ⟨y, _, _, rfl, fun k hk => ?_, g.new hT⟩
      have ha := hv.asc.sublist (List.drop_sublist i row)
      rw [hd, List.pairwise_cons] at ha
      have := ha.1 k hk
      omega
    · intro σ H2 ⟨b, v3, v4, e, _, g⟩
      subst e
      wtm_at "sx"
      exact k H2 g
def spClock : Sp := fun vs H Q _ => ∃ n : Nat, vs = [.int n, .int 240] ∧ 1 ≤ n ∧ n ≤ 240 ∧ Q .non H
theorem scClock : FnScope ["clock", "most"] ["clock", "most"] (defScope (top 17)) := ⟨rfl, rfl, rfl, by decide +kernel, rfl, by decide +kernel, by decide +kernel⟩
theorem ok_check_clock {f : Addr} {fd : FuncData} (F : Fun K "check_clock" "check_clock" (top 17) f fd) (B : Blt mg) (c1 : Ca P w K mg base "is_integer" 1 ["value"] spIsInt) : FnOk P w K mg base CX0 2 f fd ["clock", "most"] spClock := by
  refine F.ok scClock (fun vs H Q E h => ?_) (fun cdv A outer s H vs Q E hr h => ?_)
  · obtain ⟨n, rfl, _⟩ := h
    rfl
  · obtain ⟨n, rfl, h1, h2, k⟩ := h
    have nd := scClock.nd
    refine ⟨_, rss _, ?_⟩
    wtm_at "sx"
    refine ⟨n, rfl, ?_⟩
    wtm_at "sx"
    refine brDF (by omega) ?_
    wtm_at "sx"
    refine brDF (by omega) ?_
    wtm_at "sx"
    exact k
def spCkHours (K : PySem.W.Frag) : Sp := fun vs H Q _ => ∃ (n : Nat) (t : Addr) (row : List Nat), vs = [.int n, .ref t] ∧ SqT K H t (rowV row) ∧ Valid n row ∧ ∀ H', Grow H H' → Q .non H'
theorem scCkHours : FnScope ["clock", "hours", "index"] ["clock", "hours"] (defScope (top 19)) := ⟨rfl, rfl, rfl, by decide +kernel, rfl, by decide +kernel, by decide +kernel⟩
theorem ok_check_hours {f : Addr} {fd : FuncData} (F : Fun K "check_hours" "check_hours" (top 19) f fd) (B : Blt mg) (c1 : Ca P w K mg base "wrong_index" 3 ["clock", "hours"] (spWrong K)) : FnOk P w K mg base CX0 4 f fd ["clock", "hours"] (spCkHours K) := by
  refine F.ok scCkHours (fun vs H Q E h => ?_) (fun cdv A outer s H vs Q E hr h => ?_)
  · obtain ⟨n, t, row, rfl, _⟩ := h
    rfl
  · obtain ⟨n, t, row, rfl, ht, hv, k⟩ := h
    have nd := scCkHours.nd
    refine ⟨_, rss _, ?_⟩
    wtm_at "sx"
    refine ⟨n, t, row, rfl, ht, hv, fun H1 g1 => ?_⟩
    wtm_at "sx"
    refine brNF rfl ?_
    wtm_at "sx"
    exact k H1 g1
def spCkInt : Sp := fun vs H Q _ => ∃ i : Int, vs = [.int i] ∧ Q .non H
theorem scCkInt : FnScope ["number"] ["number"] (defScope (top 16)) := ⟨rfl, rfl, rfl, by decide +kernel, rfl, by decide +kernel, by decide +kernel⟩
theorem ok_check_integer {f : Addr} {fd : FuncData} (F : Fun K "check_integer" "check_integer" (top 16) f fd) (B : Blt mg) (c1 : Ca P w K mg base "is_integer" 1 ["value"] spIsInt) : FnOk P w K mg base CX0 2 f fd ["number"] spCkInt := by
  refine F.ok scCkInt (fun vs H Q E h => ?_) (fun cdv A outer s H vs Q E hr h => ?_)
  · obtain ⟨i, rfl, _⟩ := h
    rfl
  · obtain ⟨i, rfl, k⟩ := h
    have nd := scCkInt.nd
    refine ⟨_, rss _, ?_⟩
    wtm_at "sx"
    refine ⟨i, rfl, ?_⟩
    wtm_at "sx"
    exact k
/-! ### masks -/
def spMask (K : PySem.W.Frag) : Sp := fun vs H Q _ => ∃ (t : Addr) (hs : List Nat), vs = [.ref t] ∧ (SqL K H t (rowV hs) ∨ SqT K H t (rowV hs)) ∧ (∀ k ∈ hs, k < 1000) ∧ Q (.int (maskN hs : Nat)) H
theorem scMask : FnScope ["hours", "mask", "hour"] ["hours"] (defScope (top 22)) := ⟨rfl, rfl, rfl, by decide +kernel, rfl, by decide +kernel, by decide +kernel⟩
theorem maskN_take {hs : List Nat} {i y : Nat} (h : hs[i]? = some y) : maskN (hs.take (i + 1)) = maskN (hs.take i) ||| 1 <<< y := by
  unfold maskN
  rw [List.take_add_one, h, List.foldl_append]
  rfl
theorem ok_mask {f : Addr} {fd : FuncData} (F : Fun K "mask_of" "mask_of" (top 22) f fd) (B : Blt mg) : FnOk P w K mg base CX0 1 f fd ["hours"] (spMask K) := by
  refine F.ok scMask (fun vs H Q E h => ?_) (fun cdv A outer s H vs Q E hr h => ?_)
  · obtain ⟨t, hs, rfl, _⟩ := h
    rfl
  · obtain ⟨t, hs, rfl, ht, hlt, k⟩ := h
    have nd := scMask.nd
    refine ⟨_, rss _, ?_⟩
    wtm_at "sx"
    rcases ht with ht | ht
    · wtm_at "forL"
      wtm_at "sx"
      refine forL ht (fun i σ H2 => ∃ v : Option V, σ = [some (.ref t), some (.int (maskN (hs.take i) : Nat)), v] ∧ H2 = H) ⟨none, rfl, rfl⟩ (fun i σ H2 _ ⟨_, _, e⟩ => e ▸ ht) ?_ ?_
      · intro i x σ H2 hx ⟨v, e, e2⟩
        subst e e2
        rw [List.getElem?_map] at hx
        obtain ⟨y, hy, rfl⟩ := Option.map_eq_some_iff.mp hx
        have hn : y < 1000 := hlt y (List.mem_of_getElem? hy)
        wtm_at "sx"
        exact ⟨_, by rw [maskN_take hy]; rfl, rfl⟩
      · intro σ H2 ⟨v, e, e2⟩
        subst e e2
        wtm_at "sx"
        rw [List.take_of_length_le (by rw [List.length_map]; exact Nat.le_refl _)]
        exact k
    · wtm_at "forT"
      wtm_at "sx"
      refine forT ht (fun i σ H2 => ∃ v : Option V, σ = [some (.ref t), some (.int (maskN (hs.take i) : Nat)), v] ∧ H2 = H) ⟨none, rfl, rfl⟩ (fun i σ H2 _ ⟨_, _, e⟩ => e ▸ ht) ?_ ?_
      · intro i x σ H2 hx ⟨v, e, e2⟩
        subst e e2
        rw [List.getElem?_map] at hx
        obtain ⟨y, hy, rfl⟩ := Option.map_eq_some_iff.mp hx
        have hn : y < 1000 := hlt y (List.mem_of_getElem? hy)
        wtm_at "sx"
        exact ⟨_, by rw [maskN_take hy]; rfl, rfl⟩
      · intro σ H2 ⟨v, e, e2⟩
        subst e e2
        wtm_at "sx"
        rw [List.take_of_length_le (by rw [List.length_map]; exact Nat.le_refl _)]
        exact k
def spHoursOf : Sp := fun vs H Q _ => ∃ m : Nat, vs = [.int m] ∧ m < 2 ^ 1000 ∧ ∀ (p : Addr) (H' : Hp), Grow H H' → H p = none → H' p = some (.lst (rowV (bitsL m))) → Q (.ref p) H'
theorem scHoursOf : FnScope ["mask", "hour"] ["mask"] (defScope (top 23)) := ⟨rfl, rfl, rfl, by decide +kernel, rfl, by decide +kernel, by decide +kernel⟩
theorem bits_filter {m n : Nat} (h : m < 2 ^ n) : (List.range n).filter (fun k => m.testBit k) = bitsL m := asc_ext (asc_filter _ _) (asc_bitsL _) fun k => by
  rw [mem_filter_range, mem_bitsL]
  exact ⟨fun z => z.2, fun z => ⟨bits_lt h z, z⟩⟩
theorem ok_hours_of {f : Addr} {fd : FuncData} (F : Fun K "hours_of" "hours_of" (top 23) f fd) (B : Blt mg) : FnOk P w K mg base CX0 1 f fd ["mask"] spHoursOf := by
  refine F.ok scHoursOf (fun vs H Q E h => ?_) (fun cdv A outer s H vs Q E hr h => ?_)
  · obtain ⟨m, rfl, _⟩ := h
    rfl
  · obtain ⟨m, rfl, hm, k⟩ := h
    have nd := scHoursOf.nd
    refine ⟨_, rss _, ?_⟩
    have hb2 : m < 2 ^ Builtin.Int.intBits (m : Int) := by
      unfold Builtin.Int.intBits
      by_cases h0 : m = 0
      · subst h0; decide
      · have : ((m : Int) == 0) = false := by simp; omega
        rw [this]
        exact Nat.lt_log2_self
    have hb : Builtin.Int.intBits (m : Int) ≤ 1000 := by
      unfold Builtin.Int.intBits
      by_cases h0 : m = 0
      · subst h0; decide
      · have : ((m : Int) == 0) = false := by simp; omega
        rw [this]
        exact (Nat.log2_lt h0).mpr hm
    wtm_at "sx"
    wtm_at "lcR1"
    wtm_at "sx"
    refine lcR1 nd (by wtm_at "lcn") (by constructor <;> omega) (fun D i acc H' => acc = rowV ((List.range i).filter fun k => m.testBit k) ∧ Grow H H') (fun D hD => ⟨rfl, Grow.upd hD⟩) (fun D i acc H' hD hi ⟨e, g⟩ hD' => ?_) (fun D acc H' hD ⟨e, g⟩ hD' => ?_)
    · refine turn1 fun s0 H0 C cl fp => ?_
      wtm_at "sx"
      rw [bit_dec]
      have el : acc.length ≤ 1000 := by
        rw [e, List.length_map]
        refine Nat.le_trans (List.length_filter_le _ _) ?_
        rw [List.length_range]
        omega
      cases hbit : m.testBit i with
      | false =>
        refine iteF ⟨acc, hD', ?_, g⟩
        rw [e, List.range_succ, List.filter_append, List.filter_cons, hbit]
        simp
      | true =>
        refine iteT fun s1 H1 C1 cl1 fp1 => ?_
        wtm_at "sx"
        refine ⟨acc, hD', small1000 el, ?_, g.mut hD⟩
        rw [e, List.range_succ, List.filter_append, List.filter_cons, hbit]
        simp [rowV]
    · refine k D H' g hD ?_
      rw [hD', e, Int.toNat_natCast, bits_filter hb2]
def spWhole : Sp := fun vs H Q _ => ∃ n : Nat, vs = [.int n] ∧ n ≤ 1000 ∧ Q (.int ((1 <<< n - 1 : Nat) : Int)) H
theorem scWhole : FnScope ["clock"] ["clock"] (defScope (top 24)) := ⟨rfl, rfl, rfl, by decide +kernel, rfl, by decide +kernel, by decide +kernel⟩
theorem ok_whole {f : Addr} {fd : FuncData} (F : Fun K "whole_mask" "whole_mask" (top 24) f fd) (B : Blt mg) : FnOk P w K mg base CX0 1 f fd ["clock"] spWhole := by
  refine F.ok scWhole (fun vs H Q E h => ?_) (fun cdv A outer s H vs Q E hr h => ?_)
  · obtain ⟨n, rfl, _⟩ := h
    rfl
  · obtain ⟨n, rfl, hn, k⟩ := h
    have nd := scWhole.nd
    refine ⟨_, rss _, ?_⟩
    wtm_at "sx"
    have h1 : 1 ≤ 1 <<< n := by rw [Nat.one_shiftLeft]; exact Nat.two_pow_pos n
    have e1 : (((1 <<< n : Nat) : Int) - (1 : Int)) = ((1 <<< n - 1 : Nat) : Int) := by omega
    rw [← e1] at k
    exact k
def spWrap : Sp := fun vs H Q _ => ∃ n m : Nat, vs = [.int n, .int m] ∧ n ≤ 1000 ∧ Q (.int (wrapN n m : Nat)) H
theorem scWrap : FnScope ["clock", "mask"] ["clock", "mask"] (defScope (top 25)) := ⟨rfl, rfl, rfl, by decide +kernel, rfl, by decide +kernel, by decide +kernel⟩
theorem ok_wrap {f : Addr} {fd : FuncData} (F : Fun K "wrapped" "wrapped" (top 25) f fd) (B : Blt mg) (c1 : Ca P w K mg base "whole_mask" 1 ["clock"] spWhole) : FnOk P w K mg base CX0 2 f fd ["clock", "mask"] spWrap := by
  refine F.ok scWrap (fun vs H Q E h => ?_) (fun cdv A outer s H vs Q E hr h => ?_)
  · obtain ⟨n, m, rfl, _⟩ := h
    rfl
  · obtain ⟨n, m, rfl, hn, k⟩ := h
    have nd := scWrap.nd
    refine ⟨_, rss _, ?_⟩
    wtm_at "sx"
    refine ⟨n, rfl, hn, ?_⟩
    wtm_at "sx"
    exact k
def spTurned : Sp := fun vs H Q _ => ∃ (n m : Nat) (b : Int), vs = [.int n, .int m, .int b] ∧ 1 ≤ n ∧ n ≤ 1000 ∧ m < 2 ^ 1000 ∧ Q (.int (turnN n m (b % n).toNat : Nat)) H
theorem scTurned : FnScope ["clock", "mask", "by"] ["clock", "mask", "by"] (defScope (top 26)) := ⟨rfl, rfl, rfl, by decide +kernel, rfl, by decide +kernel, by decide +kernel⟩
theorem ok_turned {f : Addr} {fd : FuncData} (F : Fun K "turned" "turned" (top 26) f fd) (B : Blt mg) (c1 : Ca P w K mg base "wrapped" 2 ["clock", "mask"] spWrap) : FnOk P w K mg base CX0 3 f fd ["clock", "mask", "by"] spTurned := by
  refine F.ok scTurned (fun vs H Q E h => ?_) (fun cdv A outer s H vs Q E hr h => ?_)
  · obtain ⟨n, m, b, rfl, _⟩ := h
    rfl
  · obtain ⟨n, m, b, rfl, hn1, hn, hm, k⟩ := h
    have nd := scTurned.nd
    refine ⟨_, rss _, ?_⟩
    wtm_at "sx"
    have h0 : 0 ≤ b % (n : Int) := Int.emod_nonneg _ (by omega)
    have h1 : b % (n : Int) < n := Int.emod_lt_of_pos _ (by omega)
    obtain ⟨r, hr'⟩ := Int.eq_ofNat_of_zero_le h0
    rw [hr'] at h1 k ⊢
    rw [Int.toNat_natCast] at k
    refine o_shlN (n := 1000) hm (by omega) ?_
    wtm_at "sx"
    exact ⟨n, _, rfl, hn, k⟩
def spSums : Sp := fun vs H Q _ => ∃ n a b : Nat, vs = [.int n, .int a, .int b] ∧ n ≤ 1000 ∧ a < 2 ^ 1000 ∧ b < 2 ^ 1000 ∧ ∀ H', Grow H H' → Q (.int (sumsN n a b : Nat)) H'
theorem scSums : FnScope ["clock", "one", "other", "total", "hour"] ["clock", "one", "other"] (defScope (top 28)) := ⟨rfl, rfl, rfl, by decide +kernel, rfl, by decide +kernel, by decide +kernel⟩
theorem orShl_take {one : Nat} {hs : List Nat} {i y : Nat} (h : hs[i]? = some y) : orShl one (hs.take (i + 1)) = orShl one (hs.take i) ||| one <<< y := by
  unfold orShl
  rw [List.take_add_one, h, List.foldl_append]
  rfl
theorem ok_sums {f : Addr} {fd : FuncData} (F : Fun K "sums" "sums" (top 28) f fd) (B : Blt mg) (c1 : Ca P w K mg base "wrapped" 2 ["clock", "mask"] spWrap) (c2 : Ca P w K mg base "hours_of" 1 ["mask"] spHoursOf) : FnOk P w K mg base CX0 3 f fd ["clock", "one", "other"] spSums := by
  refine F.ok scSums (fun vs H Q E h => ?_) (fun cdv A outer s H vs Q E hr h => ?_)
  · obtain ⟨n, a, b, rfl, _⟩ := h
    rfl
  · obtain ⟨n, a, b, rfl, hn, ha, hb, k⟩ := h
    have nd := scSums.nd
    refine ⟨_, rss _, ?_⟩
    wtm_at "sx"
    wtm_at "forL"
    wtm_at "sx"
    refine ⟨b, rfl, hb, fun p H1 g hp hl => ?_⟩
    refine forL (SqL.of hl) (fun i σ H2 => ∃ v : Option V, σ = [some (.int n), some (.int a), some (.int b), some (.int (orShl a ((bitsL b).take i) : Nat)), v] ∧ H2 = H1) ⟨none, rfl, rfl⟩ (fun i σ H2 _ ⟨_, _, e⟩ => e ▸ SqL.of hl) ?_ ?_
    · intro i x σ H2 hx ⟨v, e, e2⟩
      subst e e2
      rw [List.getElem?_map] at hx
      obtain ⟨y, hy, rfl⟩ := Option.map_eq_some_iff.mp hx
      have hn : y < 1000 := bits_lt hb (mem_bitsL.mp (List.mem_of_getElem? hy))
      wtm_at "sx"
      refine o_shlN (n := 1000) ha (by omega) ?_
      wtm_at "sx"
      exact ⟨_, by rw [orShl_take hy]; rfl, rfl⟩
    · intro σ H2 ⟨v, e, e2⟩
      subst e e2
      wtm_at "sx"
      rw [List.take_of_length_le (by rw [List.length_map]; exact Nat.le_refl _)]
      exact ⟨n, _, rfl, hn, k H2 g⟩
def scaleN (n m : Nat) (f : Int) : Nat := maskN ((bitsL m).map fun h : Nat => ((h : Int) * f % n).toNat)
def spScaled : Sp := fun vs H Q _ => ∃ (n m : Nat) (f : Int), vs = [.int n, .int m, .int f] ∧ 1 ≤ n ∧ n ≤ 1000 ∧ m < 2 ^ 1000 ∧ ∀ H', Grow H H' → Q (.int (scaleN n m f : Nat)) H'
theorem scScaled : FnScope ["clock", "mask", "factor", "hour"] ["clock", "mask", "factor"] (defScope (top 27)) := ⟨rfl, rfl, rfl, by decide +kernel, rfl, by decide +kernel, by decide +kernel⟩
theorem ok_scaled {f : Addr} {fd : FuncData} (F : Fun K "scaled" "scaled" (top 27) f fd) (B : Blt mg) (c1 : Ca P w K mg base "mask_of" 1 ["hours"] (spMask K)) (c2 : Ca P w K mg base "hours_of" 1 ["mask"] spHoursOf) : FnOk P w K mg base CX0 2 f fd ["clock", "mask", "factor"] spScaled := by
  refine F.ok scScaled (fun vs H Q E h => ?_) (fun cdv A outer s H vs Q E hr h => ?_)
  · obtain ⟨n, m, f, rfl, _⟩ := h
    rfl
  · obtain ⟨n, m, fc, rfl, hn1, hn, hm, k⟩ := h
    have nd := scScaled.nd
    refine ⟨_, rss _, ?_⟩
    have hlen : (bitsL m).length ≤ 1000 := asc_len (asc_bitsL m) fun k hk => bits_lt hm (mem_bitsL.mp hk)
    wtm_at "sx"
    wtm_at "lcL"
    wtm_at "sx"
    refine ⟨m, rfl, hm, fun p H1 g1 hp1 hl1 => ?_⟩
    refine lcL nd (by wtm_at "lcn") (SqL.of hl1) (fun D i acc H' => acc = rowV (((bitsL m).take i).map fun h : Nat => ((h : Int) * fc % n).toNat) ∧ Grow H1 H') (fun D hD => ⟨rfl, Grow.upd hD⟩) (fun D i acc H' hD ⟨_, g⟩ => SqL.of (g p _ hl1)) (fun D i acc x H' hD hx ⟨e, g⟩ hD' => ?_) (fun D acc H' hD ⟨e, g⟩ hD' => ?_)
    · rw [List.getElem?_map] at hx
      obtain ⟨y, hy, rfl⟩ := Option.map_eq_some_iff.mp hx
      have hn : y < 1000 := bits_lt hm (mem_bitsL.mp (List.mem_of_getElem? hy))
      have hl : acc.length ≤ 1000 := by
        rw [e, List.length_map, List.length_map]
        exact Nat.le_trans (List.length_take_le' _ _) hlen
      refine turn0 fun s0 H0 C cl fp => ?_
      wtm_at "sx"
      refine ⟨acc, hD', small1000 hl, ?_, g.mut hD⟩
      have h0 : 0 ≤ (y : Int) * fc % (n : Int) := Int.emod_nonneg _ (by omega)
      rw [e, List.take_add_one, hy, List.map_append]
      simp [rowV, Int.toNat_of_nonneg h0]
    · wtm_at "sx"
      rw [List.length_map, List.take_length] at e
      refine ⟨D, _, rfl, .inl (SqL.of (by rw [hD', e])), fun k hk => ?_, k H' (g1.trans g)⟩
      obtain ⟨z, _, rfl⟩ := List.mem_map.mp hk
      have h0 : 0 ≤ (z : Int) * fc % (n : Int) := Int.emod_nonneg _ (by omega)
      have h1 : (z : Int) * fc % (n : Int) < n := Int.emod_lt_of_pos _ (by omega)
      omega
end
end Pk

end
section -- Pc
set_option maxRecDepth 100000
set_option maxHeartbeats 8000000
local macro_rules | `(tactic| wtm_at "sx.vis") => `(tactic| first | exact Or.inl rfl | exact Or.inr (Or.inl rfl) | exact Or.inr (Or.inr rfl))
local macro_rules | `(tactic| wtm_at "sx.loc") => `(tactic| first | exact Or.inl rfl | exact Or.inr rfl)
local macro_rules | `(tactic| wtm_at "sx.nd") => `(tactic| first | assumption | decide +kernel)
-- what stands at an address
local macro_rules | `(tactic| wtm_at "ne") => `(tactic| first | (with_reducible assumption) | (refine Ne.symm ?_; (with_reducible assumption)))
local macro_rules | `(tactic| wtm_at "hp") => `(tactic| first
  | (with_reducible assumption)
  | exact L2.upd_same
  | ((refine Sx.updN (by with_reducible assumption) ?_); wtm_at "hp")
  | ((refine Sx.updNe (by wtm_at "ne") ?_); wtm_at "hp")
  | ((refine (by with_reducible assumption : Sx.Grow _ _) _ _ ?_); wtm_at "hp"))
local macro_rules | `(tactic| wtm_at "sql") => `(tactic| first
  | assumption
  | exact L2.SqL.of (by wtm_at "hp")
  | ((refine Sx.sq_updN (by with_reducible assumption) ?_); wtm_at "sql")
  | ((refine Sx.sq_new (by with_reducible assumption) ?_); wtm_at "sql"))
local macro_rules | `(tactic| wtm_at "sqt") => `(tactic| first
  | assumption
  | exact L2.SqT.of (by wtm_at "hp")
  | ((refine Sx.st_updN (by with_reducible assumption) ?_); wtm_at "sqt")
  | ((refine Sx.st_new (by with_reducible assumption) ?_); wtm_at "sqt"))
-- expressions
local macro_rules | `(tactic| wtm_at "sx.e") => `(tactic| first
  | with_reducible refine Sx.e_int ?_
  | with_reducible refine Sx.e_bl ?_
  | with_reducible refine Sx.e_non ?_
  | with_reducible refine Sx.e_str ?_
  | ((with_reducible show Sx.RE _ (PySem.Expr.Name _ _) _ _ _); refine Sx.e_name rfl (by wtm_at "sx.vis") (by decide) (by decide) ?_)
  | ((with_reducible show Sx.RE _ (PySem.Expr.Name "int" _) _ _ _); refine Sx.e_bltn (v := .ty "int") rfl (Sx.Blt.int (by assumption)) (by decide +kernel) rfl (by decide) (by decide) ?_)
  | ((with_reducible show Sx.RE _ (PySem.Expr.Name "bool" _) _ _ _); refine Sx.e_bltn (v := .ty "bool") rfl (Sx.Blt.bool (by assumption)) (by decide +kernel) rfl (by decide) (by decide) ?_)
  | ((with_reducible show Sx.RE _ (PySem.Expr.Name "tuple" _) _ _ _); refine Sx.e_bltn (v := .ty "tuple") rfl (Sx.Blt.tuple (by assumption)) (by decide +kernel) rfl (by decide) (by decide) ?_)
  | ((with_reducible show Sx.RE _ (PySem.Expr.Name "str" _) _ _ _); refine Sx.e_bltn (v := .ty "str") rfl (Sx.Blt.str (by assumption)) (by decide +kernel) rfl (by decide) (by decide) ?_)
  | ((with_reducible show Sx.RE _ (PySem.Expr.Name "list" _) _ _ _); refine Sx.e_bltn (v := .ty "list") rfl (Sx.Blt.list (by assumption)) (by decide +kernel) rfl (by decide) (by decide) ?_)
  | ((with_reducible show Sx.RE _ (PySem.Expr.Call (PySem.Expr.Attribute _ "bit_length" _) [] [] _) _ _ _); refine Sx.e_bits rfl rfl ?_)
  | ((with_reducible show Sx.RE _ (PySem.Expr.Attribute _ "_clock" _) _ _ _); refine Sx.e_fld rfl ?_)
  | ((with_reducible show Sx.RE _ (PySem.Expr.Attribute _ "_hours" _) _ _ _); refine Sx.e_fld rfl ?_)
  | ((with_reducible show Sx.RE _ (PySem.Expr.Attribute _ "_mask" _) _ _ _); refine Sx.e_fld rfl ?_)
  | with_reducible refine Sx.e_bin ?_
  | with_reducible refine Sx.e_not ?_
  | with_reducible refine Sx.e_un ?_
  | ((with_reducible refine Sx.e_cmp ?_ ?_); (next => first | rfl | exact L2.nomark _))
  | with_reducible refine Sx.e_one ?_
  | ((with_reducible show Sx.RE _ (PySem.Expr.Compare _ [_, _] [_, _] _) _ _ _); refine Sx.e_chain (by with_unfolding_all rfl) ?_)
  | with_reducible refine Sx.e_and ?_
  | with_reducible refine Sx.e_or ?_
  | with_reducible refine Sx.e_if ?_
  | with_reducible refine Sx.e_tup ?_
  | with_reducible refine Sx.e_lst ?_
  | with_reducible refine Sx.e_sl ?_
  | ((with_reducible refine Sx.e_ix ?_ ?_); (next => exact fun _ _ => rfl))
  | wtm_at "sx.blt")
local macro_rules | `(tactic| wtm_at "sx.a") => `(tactic| first
  | with_reducible refine Sx.a_nil ?_
  | ((with_reducible refine Sx.a_cons ?_ ?_); (next => rfl)))
local macro_rules | `(tactic| wtm_at "sx.t") => `(tactic| first
  | ((with_reducible refine Sx.t_cmp ?_ ?_); (next => first | rfl | exact L2.nomark _))
  | with_reducible refine Sx.t_not ?_
  | with_reducible refine Sx.w_and ?_
  | with_reducible refine Sx.w_and1 ?_
  | with_reducible refine Sx.w_or ?_
  | with_reducible refine Sx.w_or1 ?_
  | (with_reducible refine Sx.t_pw (e := .BoolOp _ _ _) ?_)
  | ((with_reducible refine Sx.t_val ?_ ?_); (next => (intro _; rfl))))
local macro_rules | `(tactic| wtm_at "sx.s") => `(tactic| first
  | with_reducible refine Sx.ss_nil ?_
  | with_reducible refine Sx.ss_cons ?_
  | with_reducible refine Sx.s_pass ?_
  | with_reducible refine Sx.s_break ?_
  | with_reducible refine Sx.s_continue ?_
  | with_reducible refine Sx.s_ret ?_
  | with_reducible refine Sx.s_retN ?_
  | with_reducible refine Sx.s_if ?_
  | ((with_reducible refine Sx.s_expr ?_ ?_); (next => rfl))
  | ((with_reducible refine Sx.s_set ?_ ?_ ?_ ?_ ?_ ?_); (next => wtm_at "sx.nd"); (next => rfl); (next => wtm_at "sx.loc"); (next => exact .inl rfl); (next => rfl))
  | ((with_reducible refine Sx.s_fld ?_ ?_); (next => rfl))
  | ((with_reducible refine Sx.s_asg ?_ ?_ ?_ ?_); (next => rfl); (next => rfl); (next => rfl))
  | ((with_reducible show Sx.RSs _ _ _ _ _); refine Sx.ss_cons ?_))
local macro_rules | `(tactic| wtm_at "sx.g") => `(tactic| first
  | ((with_reducible refine Sx.g_name ?_ ?_ ?_ ?_ ?_); (next => wtm_at "sx.nd"); (next => rfl); (next => wtm_at "sx.loc"); (next => exact .inl rfl))
  | ((with_reducible show Sx.RG _ (PySem.Expr.Tuple _ _ _) _ _ _ _); refine Sx.g_tup rfl rfl rfl (by wtm_at "sqt") rfl ?_)
  | with_reducible refine Sx.gs_nil ?_
  | ((with_reducible refine Sx.gs_cons ?_ ?_); (next => rfl))
  | ((with_reducible refine Sx.g_sub ?_ ?_); (next => (intro _; rfl))))
-- values
local macro_rules | `(tactic| wtm_at "sx.v") => `(tactic| first
  | with_reducible refine Sx.o_add ?_
  | with_reducible refine Sx.o_sub ?_
  | with_reducible refine Sx.u_neg ?_
  | with_reducible refine Sx.o_orN ?_
  | with_reducible refine Sx.o_andN ?_
  | with_reducible refine Sx.o_andOne ?_
  | with_reducible refine Sx.o_xorN ?_
  | with_reducible refine Sx.o_shrN ?_
  | ((with_reducible refine Sx.o_oneShl ?_ ?_); (next => omega))
  | with_reducible refine Sx.tr_nat ?_
  | with_reducible refine Sx.ip_addI ?_
  | with_reducible refine Sx.u_inv ?_
  | ((with_reducible refine Sx.o_mod ?_ ?_); (next => first | decide | assumption | omega))
  | with_reducible refine Sx.c_lt ?_
  | with_reducible refine Sx.c_le ?_
  | with_reducible refine Sx.c_gt ?_
  | with_reducible refine Sx.c_ge ?_
  | with_reducible refine Sx.c_eqI ?_
  | with_reducible refine Sx.c_neI ?_
  | with_reducible refine Sx.c_eqS ?_
  | with_reducible refine Sx.c_neS ?_
  | with_reducible refine Sx.c_eqB ?_
  | with_reducible refine Sx.c_neB ?_
  | with_reducible refine Sx.c_isN ?_
  | with_reducible refine Sx.c_notN ?_
  | with_reducible refine Sx.tr_bl ?_
  | with_reducible refine Sx.tr_int ?_
  | with_reducible refine Sx.b_int ?_
  | ((with_reducible show Sx.RC _ (PySem.Value.builtin "isinstance") [L2.V.int _, L2.V.ty _] _ _); (first | refine Sx.b_isiInt (b := true) (by decide +kernel) ?_ | refine Sx.b_isiInt (b := false) (by decide +kernel) ?_))
  | ((with_reducible show Sx.RC _ (PySem.Value.builtin "isinstance") [L2.V.ref _, L2.V.ty _] _ _); (first | refine Sx.b_isiTupQ (b := true) (by wtm_at "sqt") (by decide +kernel) ?_ | refine Sx.b_isiTupQ (b := false) (by wtm_at "sqt") (by decide +kernel) ?_))
  | ((with_reducible show Sx.RSl _ (L2.V.ref _) _ _ _ _); refine Sx.sl_l (by wtm_at "sql") ?_)
  | ((with_reducible show Sx.RO _ (PySem.binaryOp .Add) (L2.V.ref _) (L2.V.ref _) _ _); refine Sx.o_cat (by wtm_at "hp") (by wtm_at "hp") (by wtm_at "size") ?_)
  | ((with_reducible refine Sx.o_pow ?_ ?_); (next => decide))
  | ((with_reducible refine Sx.b_divmod ?_ ?_); (next => first | decide | (constructor <;> omega)))
  | ((with_reducible refine Sx.o_mul ?_ ?_); (next => first | exact Sx.mulL (by omega) (by omega) | exact Sx.mulR (by omega) (by omega)))
  | ((with_reducible refine Sx.o_fdiv30 ?_ ?_); (next => first | decide | (constructor <;> omega)))
  | with_reducible refine Sx.b_abs ?_
  | ((with_reducible refine Sx.b_max2 ?_ ?_); (next => rfl))
  | ((with_reducible refine Sx.b_min2 ?_ ?_); (next => rfl))
  | ((with_reducible show Sx.RC _ (PySem.Value.builtin "len") [L2.V.ref _] _ _); refine Sx.b_lenL (by wtm_at "sql") ?_)
  | ((with_reducible show Sx.RC _ (PySem.Value.builtin "len") [L2.V.ref _] _ _); refine Sx.b_lenT (by wtm_at "sqt") ?_)
  | ((with_reducible show Sx.RC _ (PySem.Value.type "tuple") [L2.V.ref _] _ _); refine Sx.b_tupL (by wtm_at "sql") ?_)
  | ((with_reducible show Sx.RC _ (PySem.Value.type "tuple") [L2.V.ref _] _ _); refine Sx.b_tupT (by wtm_at "sqt") ?_)
  | ((with_reducible show Sx.RC _ (PySem.Value.type "list") [L2.V.ref _] _ _); refine Sx.b_lstL (by wtm_at "sql") ?_)
  | ((with_reducible show Sx.RC _ (PySem.Value.type "list") [L2.V.ref _] _ _); refine Sx.b_lstT (by wtm_at "sqt") ?_)
  | ((with_reducible show Sx.RIx _ (L2.V.ref _) (L2.V.int (OfNat.ofNat _)) _ _); refine Sx.ix_lst (by wtm_at "sql") (by rfl) ?_)
  | ((with_reducible show Sx.RIx _ (L2.V.ref _) (L2.V.int (OfNat.ofNat _)) _ _); refine Sx.ix_tp (by wtm_at "sqt") (by rfl) ?_)
  | ((with_reducible show Sx.RSet _ (L2.V.ref _) (L2.V.int (OfNat.ofNat _)) _ _ _); refine Sx.set_lst (by wtm_at "hp") (by rfl) ?_))
-- left-overs
local macro_rules | `(tactic| wtm_at "size") => `(tactic| first
  | exact Nat.le_of_ble_eq_true rfl
  | exact Sx.size5 (by first | omega | (simp only [List.length_cons, List.length_nil, List.length_append, List.length_map, List.length_replicate]; omega))
  | exact Sx.size5l (by first | omega | (simp only [List.length_cons, List.length_nil, List.length_append, List.length_map, List.length_replicate]; omega)))
local macro_rules | `(tactic| wtm_at "sx.x") => `(tactic| first
  | (with_reducible refine Sx.exI ?_)
  | ((with_reducible show ∃ a C dx fs, L2.V.ref _ = L2.V.ref a ∧ _); refine Sx.exSet (by wtm_at "hp") (by assumption) (by assumption) (Sx.few1000 (by rfl)) ?_)
  | ((with_reducible show ∃ a C dx fs v, L2.V.ref _ = L2.V.ref a ∧ _); refine Sx.exFld (by wtm_at "hp") (by assumption) (by assumption) rfl ?_)
  | (with_reducible refine L2.iteT ?_)
  | (with_reducible refine Sx.brNt ?_)
  | (with_reducible refine Sx.brNf ?_)
  | (with_reducible refine L2.iteF ?_)
  | (with_reducible refine Sx.p_none ?_)
  | (with_reducible refine Sx.p_some ?_)
  | (with_reducible refine Sx.exB ?_)
  | ((with_reducible refine Sx.lenOk ?_ ?_); (next => exact Nat.le_of_ble_eq_true rfl))
  | ((with_reducible refine Sx.allMade ?_); intro x dx hx hdx hne)
  | ((with_reducible refine Sx.allNew ?_); intro p hp))
local macro_rules | `(tactic| wtm_at "room") => `(tactic| first | assumption | exact L2.Room.mono (by assumption) (by decide))
local macro_rules | `(tactic| wtm_at "br") => `(tactic| first | exact L2.iteT ?_ | exact L2.iteF ?_)
local macro_rules | `(tactic| wtm_at "sx.u") => `(tactic| ((with_reducible show Sx.RE _ (PySem.Expr.Call (PySem.Expr.Name _ _) (_ :: _) [] _) _ _ _); first | refine Sx.e_call (by assumption) (by wtm_at "room") rfl (by decide) rfl rfl ?_ | refine Sx.e_make (by assumption) (by wtm_at "room") rfl (by decide) rfl rfl ?_))
local macro_rules | `(tactic| wtm_at "sx.blt") => `(tactic| first
  | ((with_reducible refine Sx.e_b_len ?_ ?_ ?_ ?_ ?_); (next => assumption); (next => rfl); (next => rfl); (next => rfl))
  | ((with_reducible refine Sx.e_b_int ?_ ?_ ?_ ?_ ?_); (next => assumption); (next => rfl); (next => rfl); (next => rfl))
  | ((with_reducible refine Sx.e_b_abs ?_ ?_ ?_ ?_ ?_); (next => assumption); (next => rfl); (next => rfl); (next => rfl))
  | ((with_reducible refine Sx.e_b_tuple ?_ ?_ ?_ ?_ ?_); (next => assumption); (next => rfl); (next => rfl); (next => rfl))
  | ((with_reducible refine Sx.e_b_list ?_ ?_ ?_ ?_ ?_); (next => assumption); (next => rfl); (next => rfl); (next => rfl))
  | ((with_reducible refine Sx.e_b_set ?_ ?_ ?_ ?_ ?_); (next => assumption); (next => rfl); (next => rfl); (next => rfl))
  | ((with_reducible refine Sx.e_b_sorted ?_ ?_ ?_ ?_ ?_); (next => assumption); (next => rfl); (next => rfl); (next => rfl))
  | ((with_reducible refine Sx.e_b_all ?_ ?_ ?_ ?_ ?_); (next => assumption); (next => rfl); (next => rfl); (next => rfl))
  | ((with_reducible refine Sx.e_b_divmod ?_ ?_ ?_ ?_ ?_); (next => assumption); (next => rfl); (next => rfl); (next => rfl))
  | ((with_reducible refine Sx.e_b_isinstance ?_ ?_ ?_ ?_ ?_); (next => assumption); (next => rfl); (next => rfl); (next => rfl))
  | ((with_reducible refine Sx.e_b_str ?_ ?_ ?_ ?_ ?_); (next => assumption); (next => rfl); (next => rfl); (next => rfl))
  | ((with_reducible refine Sx.e_b_repr ?_ ?_ ?_ ?_ ?_); (next => assumption); (next => rfl); (next => rfl); (next => rfl))
  | ((with_reducible refine Sx.e_b_bool ?_ ?_ ?_ ?_ ?_); (next => assumption); (next => rfl); (next => rfl); (next => rfl))
  | ((with_reducible refine Sx.e_b_min ?_ ?_ ?_ ?_ ?_); (next => assumption); (next => rfl); (next => rfl); (next => rfl))
  | ((with_reducible refine Sx.e_b_max ?_ ?_ ?_ ?_ ?_); (next => assumption); (next => rfl); (next => rfl); (next => rfl))
  | ((with_reducible refine Sx.e_b_sum ?_ ?_ ?_ ?_ ?_); (next => assumption); (next => rfl); (next => rfl); (next => rfl)))
local macro_rules | `(tactic| wtm_at "sx1") => `(tactic| first | ((with_reducible show Sx.RE _ _ _ _ _); first | wtm_at "sx.e" | wtm_at "sx.u") | wtm_at "sx.a" | wtm_at "sx.v" | wtm_at "sx.t" | wtm_at "sx.s" | wtm_at "sx.g" | wtm_at "sx.x" | wtm_at "sx.u")
local macro_rules | `(tactic| wtm_at "sx") => `(tactic| (wtm_at "sx1"; repeat wtm_at "sx1"))
local macro_rules | `(tactic| wtm_at "forL") => `(tactic| refine Sx.s_forL (fun _ => rfl) PySem.PassesOwn.never rfl ?_)
local macro_rules | `(tactic| wtm_at "lcL") => `(tactic| refine Sx.e_lcL (Sx.at_idx rfl) rfl (by wtm_at "sx.nd") (by rfl) (by decide) (fun _ => rfl) ?_)
local macro_rules | `(tactic| wtm_at "forT") => `(tactic| refine Sx.s_forT (fun _ => rfl) PySem.PassesOwn.never rfl ?_)
local macro_rules | `(tactic| wtm_at "lcT") => `(tactic| refine Sx.e_lcT (Sx.at_idx rfl) rfl (by wtm_at "sx.nd") (by rfl) (by decide) (fun _ => rfl) ?_)
local macro_rules | `(tactic| wtm_at "forR1") => `(tactic| refine Sx.s_forR1 PySem.PassesOwn.never rfl (by assumption) rfl rfl ?_)
local macro_rules | `(tactic| wtm_at "lcR1") => `(tactic| refine Sx.e_lcR1 (Sx.at_idx rfl) rfl (by wtm_at "sx.nd") (by rfl) (by decide) (by assumption) rfl rfl ?_)
local macro_rules | `(tactic| wtm_at "forR2") => `(tactic| refine Sx.s_forR2 PySem.PassesOwn.never rfl (by assumption) rfl rfl rfl ?_)
local macro_rules | `(tactic| wtm_at "lcR2") => `(tactic| refine Sx.e_lcR2 (Sx.at_idx rfl) rfl (by wtm_at "sx.nd") (by rfl) (by decide) (by assumption) rfl rfl rfl ?_)
local macro_rules | `(tactic| wtm_at "lcn") => `(tactic| exact ⟨Sx.at_idx rfl, fun _ _ _ _ _ => (by wtm_at "sx.loc"), fun _ _ _ _ _ => (by wtm_at "sx.loc")⟩)
local macro_rules | `(tactic| wtm_at "norm") => `(tactic| (refine Sx.normS (σ' := ?_) (by (try simp only [Sx.setN]); exact rfl) ?_))
-- attributes
local macro_rules | `(tactic| wtm_at "fld") => `(tactic| ((with_reducible refine Sx.e_fld ?_ ?_); (next => rfl)))
local macro_rules | `(tactic| wtm_at "aug") => `(tactic| refine Sx.s_aug (by wtm_at "sx.nd") (by wtm_at "sx.loc") (.inl rfl) rfl ?_)
local macro_rules | `(tactic| wtm_at "forET") => `(tactic| refine Sx.s_forET PySem.PassesOwn.never rfl (by assumption) rfl rfl ?_)
local macro_rules | `(tactic| wtm_at "app") => `(tactic| ((with_reducible show Sx.RE _ (PySem.Expr.Call (PySem.Expr.Attribute _ "append" _) [_] [] _) _ _ _); refine Sx.e_append rfl rfl rfl rfl rfl ?_))
local macro_rules | `(tactic| wtm_at "sx.v2") => `(tactic| first
  | ((with_reducible show Sx.RO _ (PySem.binaryOp .Add) (L2.V.ref _) (L2.V.ref _) _ _); refine Sx.o_catT' (by wtm_at "sqt") (by wtm_at "sqt") (by wtm_at "size") ?_; intro p Hc gc hc)
  | ((with_reducible show Sx.RO _ (PySem.compareOp .In) (L2.V.int _) (L2.V.ref _) _ _); refine Sx.c_inT (by wtm_at "sqt") ?_)
  | ((with_reducible show Sx.RO _ (PySem.compareOp .NotIn) (L2.V.int _) (L2.V.ref _) _ _); refine Sx.c_notInT (by wtm_at "sqt") ?_))
local macro_rules | `(tactic| wtm_at "par3") => `(tactic| refine Sx.s_par3 rfl (by wtm_at "sx.nd") rfl rfl rfl (by decide) (by decide) (by decide) rfl rfl rfl rfl rfl ?_)
local macro_rules | `(tactic| wtm_at "par2") => `(tactic| refine Sx.s_par rfl (by wtm_at "sx.nd") rfl rfl (by decide) rfl rfl rfl rfl ?_)
-- runs on until an operator of two values stands first
local macro_rules | `(tactic| wtm_at "sxo") => `(tactic| repeat ((fail_if_success (with_reducible show Sx.RO _ _ _ _ _ _)); wtm_at "sx1"))
namespace Pk
open PySem L2 Sx Mx
section
variable {P : Program} {w : World} {K : PySem.W.Frag} {mg : Str → Option Value} {base : Heap} {C : Addr}
theorem HoursAt.grow {H H' : Hp} {p : Addr} {n : Nat} {row : List Nat} (h : HoursAt K C H p n row) (g : Grow H H') : HoursAt K C H' p n row := by
  obtain ⟨v, dx, t, h1, h2⟩ := h
  exact ⟨v, dx, t, g _ _ h1, st_new g h2⟩
/-! ### the class -/
theorem okD {x qual : Str} {st : Stmt} {f : Addr} {fd : FuncData} {N ps : List Str} {k : Nat} {sp : Sp} {dvs : List V} (F : FunD K x qual (defArgs st) (defBody st) (defScope st) dvs [] f fd) (S : FnScope N ps (defScope st)) (len : ∀ vs H Q E, sp vs H Q E → vs.length = ps.length)
    (hbody : ∀ (cdv : Value) (A : Around) (outer : List Env) (s : Shared) (H : Hp) (vs : List V) (Q : VK) (E : XK), Room k (A.deeper (PyProof.Rows.envOfC qual (defScope st) s.heap.objs.size f cdv)) → sp vs H Q E →
      ∃ t, PSs (cxOf CX0 P w K mg base N qual (defScope st) f cdv A outer s H E).nox (defBody st) t ∧ t { nx := fun _ H' => Q .non H', rt := Q } (start N vs) H) : FnOk P w K mg base CX0 (k + 1) f fd ps sp := by
  obtain ⟨oc, od, dV, kV, doc, pm, an, cdv, ct, osl, rfl, lk, hcd, _, _⟩ := F.ex
  refine fn_of lk hcd S len fun A outer s H vs Q E hr hsp => ?_
  obtain ⟨t, h, q⟩ := hbody cdv A outer s H vs Q E hr hsp
  exact ⟨t, h.nox, q⟩
def spInit (K : PySem.W.Frag) (C : Addr) : Sp := fun vs H Q _ => ∃ (p dx : Addr) (n : Nat) (t : Addr) (row : List Nat), vs = [.ref p, .int n, .ref t] ∧ H p = some (.ins C dx []) ∧ SqT K H t (rowV row) ∧ Valid n row ∧
  ∀ H', (∀ b o, H b = some o → b ≠ p → H' b = some o) → H' p = some (.ins C dx (flds n t (maskN row))) → Q .non H'
theorem scInit : FnScope ["self", "clock", "hours"] ["self", "clock", "hours"] (defScope (inClass (top 31) 0)) := ⟨rfl, rfl, rfl, by decide +kernel, rfl, by decide +kernel, by decide +kernel⟩
theorem sq_ins {K : PySem.W.Frag} {H : Hp} {p t C dx : Addr} {fs : List (Str × V)} {o : HO} {xs : List V} (hp : H p = some (.ins C dx fs)) (h : SqT K H t xs) : SqT K (upd H p o) t xs := by
  rcases h with (h | ⟨ob, h⟩) | h
  · exact .inl (.inl (by rw [upd_ne (ne_of h hp (by intro z; cases z))]; exact h))
  · exact .inl (.inr ⟨ob, by rw [upd_ne (ne_of h hp (by intro z; cases z))]; exact h⟩)
  · exact .inr h
theorem ok_init {f : Addr} {fd : FuncData} {dv : V} (F : FunD K "__init__" "Hours.__init__" (defArgs (inClass (top 31) 0)) (defBody (inClass (top 31) 0)) (defScope (inClass (top 31) 0)) [dv] [] f fd) (T : Txt K mg C) (c1 : Ca P w K mg base "check_clock" 2 ["clock", "most"] spClock) (c2 : Ca P w K mg base "check_hours" 4 ["clock", "hours"] (spCkHours K))
    (c3 : Ca P w K mg base "mask_of" 1 ["hours"] (spMask K)) : FnOk P w K mg base CX0 5 f fd ["self", "clock", "hours"] (spInit K C) := by
  refine okD F scInit (fun vs H Q E h => ?_) (fun cdv A outer s H vs Q E hr h => ?_)
  · obtain ⟨p, dx, n, t, row, rfl, _⟩ := h
    rfl
  · obtain ⟨p, dx, n, t, row, rfl, hp, ht, hv, k⟩ := h
    have nd := scInit.nd
    have B := T.B
    obtain ⟨tk, hm⟩ := T.most
    refine ⟨_, rss _, ?_⟩
    have cl := T.cl
    have nC := T.nC
    have nH := T.nH
    have nM := T.nM
    wtm_at "sx"
    refine Sx.e_glob rfl hm (ri 240 tk) (by decide) ?_
    wtm_at "sx"
    refine ⟨n, rfl, hv.pos, hv.le, ?_⟩
    wtm_at "sx"
    refine ⟨n, t, row, rfl, ht, hv, fun H1 g1 => ?_⟩
    have hp1 := g1 _ _ hp
    wtm_at "sx"
    refine ⟨t, row, rfl, .inr (sq_ins upd_same (sq_ins hp1 (st_new g1 ht))), fun k hk => by have := hv.lt k hk; have := hv.le; omega, ?_⟩
    wtm_at "sx"
    refine k _ (fun b o hb hne => ?_) ?_
    · rw [upd_ne hne, upd_ne hne, upd_ne hne]
      exact g1 _ _ hb
    · rw [upd_same]
      rfl
/-! ### attributes of the interface -/
def spGetN (K : PySem.W.Frag) (C : Addr) : Sp := fun vs H Q _ => ∃ (a : Addr) (n : Nat) (row : List Nat), vs = [.ref a] ∧ HoursAt K C H a n row ∧ Q (.int n) H
def spGetH (K : PySem.W.Frag) (C : Addr) : Sp := fun vs H Q _ => ∃ (a : Addr) (n : Nat) (row : List Nat), vs = [.ref a] ∧ HoursAt K C H a n row ∧ ∀ t, SqT K H t (rowV row) → Q (.ref t) H
theorem scGetN : FnScope ["self"] ["self"] (defScope (inClass (top 31) 3)) := ⟨rfl, rfl, rfl, by decide +kernel, rfl, by decide +kernel, by decide +kernel⟩
theorem ok_getN {f : Addr} {fd : FuncData} (F : Fun K "clock" "Hours.clock" (inClass (top 31) 3) f fd) (T : Txt K mg C) : FnOk P w K mg base CX0 1 f fd ["self"] (spGetN K C) := by
  refine F.ok scGetN (fun vs H Q E h => ?_) (fun cdv A outer s H vs Q E hr h => ?_)
  · obtain ⟨a, n, row, rfl, _⟩ := h
    rfl
  · obtain ⟨a, n, row, rfl, ⟨hv, dx, t, ha, ht⟩, k⟩ := h
    have nd := scGetN.nd
    have cl := T.cl
    have nC := T.nC
    refine ⟨_, rss _, ?_⟩
    wtm_at "sx"
    exact k
theorem scGetH : FnScope ["self"] ["self"] (defScope (inClass (top 31) 4)) := ⟨rfl, rfl, rfl, by decide +kernel, rfl, by decide +kernel, by decide +kernel⟩
theorem ok_getH {f : Addr} {fd : FuncData} (F : Fun K "hours" "Hours.hours" (inClass (top 31) 4) f fd) (T : Txt K mg C) : FnOk P w K mg base CX0 1 f fd ["self"] (spGetH K C) := by
  refine F.ok scGetH (fun vs H Q E h => ?_) (fun cdv A outer s H vs Q E hr h => ?_)
  · obtain ⟨a, n, row, rfl, _⟩ := h
    rfl
  · obtain ⟨a, n, row, rfl, ⟨hv, dx, t, ha, ht⟩, k⟩ := h
    have nd := scGetH.nd
    have cl := T.cl
    have nH := T.nH
    refine ⟨_, rss _, ?_⟩
    wtm_at "sx"
    exact k t ht
/-! ### making -/
abbrev MkH (P : Program) (w : World) (K : PySem.W.Frag) (mg : Str → Option Value) (base : Heap) (C : Addr) := MakeOk P w K mg base "Hours" C 5 ["self", "clock", "hours"] (spInit K C) []
/-- behind Hours(n, row): the new set -/
theorem made {H H' : Hp} {x dx t : Addr} {n : Nat} {row : List Nat} (hx : H x = none) (hdx : H dx = none) (hne : dx ≠ x) (hv : Valid n row) (ht : SqT K H t (rowV row)) (hk : ∀ b o, upd (upd H dx (.own x)) x (.ins C dx []) b = some o → b ≠ x → H' b = some o)
    (hp : H' x = some (.ins C dx (flds n t (maskN row)))) : Grow H H' ∧ HoursAt K C H' x n row := by
  have g : Grow H H' := fun b o hb => hk b o (by rw [upd_ne (ne_of_none hb hx), upd_ne (ne_of_none hb hdx)]; exact hb) (ne_of_none hb hx)
  exact ⟨g, hv, dx, t, hp, st_new g ht⟩
theorem init_use {H : Hp} {x dx t : Addr} {n : Nat} {row : List Nat} {Q : Hp → Prop} (hx : H x = none) (hdx : H dx = none) (hne : dx ≠ x) (hv : Valid n row) (ht : SqT K H t (rowV row)) (q : ∀ H', Grow H H' → HoursAt K C H' x n row → Q H') :
    spInit K C [.ref x, .int n, .ref t] (upd (upd H dx (.own x)) x (.ins C dx [])) (fun v H2 => v = .non ∧ Q H2) E0 := by
  refine ⟨x, dx, n, t, row, rfl, upd_same, st_new (g := ((Grow.upd hdx).trans (Grow.upd (by rw [upd_ne (Ne.symm hne)]; exact hx)))) ht, hv, fun H' hk hp => ?_⟩
  obtain ⟨g, h⟩ := made hx hdx hne hv ht hk hp
  exact ⟨rfl, q H' g h⟩
def spOfMask (K : PySem.W.Frag) (C : Addr) : Sp := fun vs H Q _ => ∃ n m : Nat, vs = [.int n, .int m] ∧ 1 ≤ n ∧ n ≤ 240 ∧ m < 2 ^ n ∧ ∀ (p : Addr) (H' : Hp), Grow H H' → H p = none → HoursAt K C H' p n (bitsL m) → Q (.ref p) H'
theorem scOfMask : FnScope ["clock", "mask"] ["clock", "mask"] (defScope (top 32)) := ⟨rfl, rfl, rfl, by decide +kernel, rfl, by decide +kernel, by decide +kernel⟩
theorem valid_bits {n m : Nat} (h1 : 1 ≤ n) (h2 : n ≤ 240) (hm : m < 2 ^ n) : Valid n (bitsL m) := ⟨h1, h2, asc_bitsL m, fun k hk => bits_lt hm (mem_bitsL.mp hk)⟩
theorem pow_le {n m : Nat} (h2 : n ≤ 240) (hm : m < 2 ^ n) : m < 2 ^ 1000 := Nat.lt_of_lt_of_le hm (Nat.pow_le_pow_right (by decide) (by omega))
theorem ok_of_mask {f : Addr} {fd : FuncData} (F : Fun K "of_mask" "of_mask" (top 32) f fd) (T : Txt K mg C) (c1 : Ca P w K mg base "hours_of" 1 ["mask"] spHoursOf) (M : MkH P w K mg base C) : FnOk P w K mg base CX0 7 f fd ["clock", "mask"] (spOfMask K C) := by
  refine F.ok scOfMask (fun vs H Q E h => ?_) (fun cdv A outer s H vs Q E hr h => ?_)
  · obtain ⟨n, m, rfl, _⟩ := h
    rfl
  · obtain ⟨n, m, rfl, h1, h2, hm, k⟩ := h
    have nd := scOfMask.nd
    have B := T.B
    refine ⟨_, rss _, ?_⟩
    wtm_at "sx"
    refine ⟨m, rfl, pow_le h2 hm, fun p H1 g1 hp hl => ?_⟩
    wtm_at "sx"
    rename_i t ht x dx hx hdx hne
    refine init_use hx hdx hne (valid_bits h1 h2 hm) (SqT.of upd_same) fun H' g h => ?_
    exact k x H' ((g1.new ht).trans g) ((g1.new ht).free hx) h
end
end Pk

end
section -- Ss
set_option maxRecDepth 100000
set_option maxHeartbeats 4000000
namespace Sx
open PySem PySem.Spec L2
open PyProof.Rows hiding St
theorem call_set_listI {P : Program} {w : World} {A : Around} {E : Value → Shared → Prop} {s : Shared} {l : Addr} {items : Array Value} (ns : List Int) {Q : Value → Shared → Prop} (hh : A.handled = none) (hl : s.heap.IsList l items) (hit : IntsAre items.toList ns) (hb : ns.length + 1 < scanBound)
    (h : ∀ (h' : Heap) (tk c : Nat), SetR w h' s.heap.objs.size (fun j => decide (j ∈ ns)) c → c ≤ ns.length → (∀ (b : Addr) (o : Obj), s.heap.get? b = some o → h'.get? b = some o) → Q (Value.ref s.heap.objs.size) { heap := h', gens := s.gens, drawn := s.drawn, toks := tk, os := s.os }) :
    wpAny (model P w) A (call (Value.type "set") [Value.ref l]) Q E s := by
  have hisz : items.size = ns.length := by have q := hit.length; rwa [Array.length_toList] at q
  obtain ⟨c, tl, hmro⟩ := F.called_set.mro
  have hmade := F.called_set.made
  have hsub := F.called_set.sub
  refine wpAny_call (codeAny_of_tree ?_)
  refine wpAny_pure ⟨Code.quiet_builtin _ (by decide +kernel), ?_⟩
  refine codeAny_builtin F.entry_type_call ?_
  rw [Around.under_plain (weight_type_call_type "set" [Value.ref l] []) rfl]
  have h1 := F.called_set.notType
  have h2 := F.called_set.canCreate
  have hct := F.typeCall_set_1 (Value.ref l)
  unfold Builtin.«type.__call__»
  refine wpAny_ite_false (by rfl) ?_
  refine wpAny_ite_false (by rfl) ?_
  refine wpAny_bind (wpAny_of_eq hct (wpAny_bind (wpAny_of_eq hmro (wpAny_ite_false (by rfl) (wpAny_bind (wpAny_of_eq hmade (wpAny_bind (wpAny_pure (wpAny_bind (wpAny_holding (wpAny_call (codeAny_mono (code_set_led1 (E := E) (Q₁ := fun (obj : Value) (s₁ : Shared) => obj = Value.ref s.heap.objs.size ∧ s₁ = ({ heap := s.heap.push { cls := Value.type "set", data := Data.set #[] 0 (SetTable.fresh 0 0 !w.params.followText "set-order") }, gens := s.gens, drawn := s.drawn, toks := s.toks, os := s.os } : Shared)) (Value.ref l) ⟨rfl, rfl⟩) fun r s₁ hr => ?_))))))))))))
  cases r with
  | error e => exact hr
  | ok fl =>
    cases fl with
    | next => exact hr.elim
    | brk => exact hr.elim
    | cont => exact hr.elim
    | ret obj =>
      obtain ⟨rfl, rfl⟩ := hr
      have hS : (s.heap.push ({ cls := Value.type "set", data := Data.set #[] 0 (SetTable.fresh 0 0 !w.params.followText "set-order") } : Obj)).get? s.heap.objs.size = some { cls := Value.type "set", data := Data.set #[] 0 (SetTable.fresh 0 0 !w.params.followText "set-order") } := Heap.get?_push_size _ rfl
      have hT : Shared.TypeIs { heap := s.heap.push { cls := Value.type "set", data := Data.set #[] 0 (SetTable.fresh 0 0 !w.params.followText "set-order") }, gens := s.gens, drawn := s.drawn, toks := s.toks, os := s.os } (Value.ref s.heap.objs.size) "set" := ⟨_, hS, rfl⟩
      have hli := F.called_set.init.lookup
      have hbi := F.called_set.init.bind
      obtain ⟨ol, hol, hcl, nl, hdl⟩ := hl
      have hol' := Heap.get?_push_of_some { cls := Value.type "set", data := Data.set #[] 0 (SetTable.fresh 0 0 !w.params.followText "set-order") } hol
      have hTl : Shared.TypeIs { heap := s.heap.push { cls := Value.type "set", data := Data.set #[] 0 (SetTable.fresh 0 0 !w.params.followText "set-order") }, gens := s.gens, drawn := s.drawn, toks := s.toks, os := s.os } (Value.ref l) "list" := ⟨_, hol', hcl⟩
      have hsls := F.sub_list_set
      have hslf := F.sub_list_frozenset
      refine wpAny_bind (wpAny_isInstance hT hsub (wpAny_ite_false (by rfl) ?_))
      refine wpAny_bind (wpAny_holding ?_)
      show wpAny _ _ (callSpecial? _ _ _ _) _ _ _
      unfold callSpecial?
      refine wpAny_bind (wpAny_specialOf hT hli ?_)
      refine wpAny_holding (wpAny_bind (wpAny_of_eq (hbi _) (wpAny_bind ?_)))
      refine wpAny_call (codeAny_mono (codeAny_call_builtin (R := fun r s' => ∃ h' tk c, r = .ok (.ret .none) ∧ s' = { heap := h', gens := s.gens, drawn := s.drawn, toks := tk, os := s.os } ∧ SetR w h' s.heap.objs.size (fun j => decide (j ∈ ns)) c ∧ c ≤ ns.length ∧ (∀ (b : Addr) (o : Obj), s.heap.get? b = some o → h'.get? b = some o)) F.called_set.init.plain F.entry_set_init (check_set_init_1 hT ?_)) fun r₂ s₂ hr₂ => ?_)
      · unfold Builtin.«set.__init__»
        simp only [noKeywords, Builtin.Frozenset.addrOf, List.cons_append, List.nil_append]
        repeat (first | ((with_reducible refine wpAny_bind (m := pyIter (Value.ref l)) ?_); refine wpAny_pyIter_list ⟨ol, hol', hcl, nl, hdl⟩ ?_) | (with_reducible refine wpAny_runValue ?_) | wp_step)
        have hlS := Heap.lt_size hol
        have hz1 : (s.heap.push ({ cls := Value.type "set", data := Data.set #[] 0 (SetTable.fresh 0 0 !w.params.followText "set-order") } : Obj)).objs.size = s.heap.objs.size + 1 := Heap.size_push _ _
        have hneI : l ≠ (s.heap.push ({ cls := Value.type "set", data := Data.set #[] 0 (SetTable.fresh 0 0 !w.params.followText "set-order") } : Obj)).objs.size := by rw [hz1]; exact Nat.ne_of_lt (Nat.lt_succ_of_lt hlS)
        refine set_update_ints (n := items.size) (Walks.toS (Walks.list (A := A.in1.in1.in1) hh _ l hneI items)) s.heap.objs.size (by
            rw [List.mem_cons, List.mem_cons]
            rintro (e | e | e)
            · rw [hz1] at e; exact absurd e (Nat.ne_of_lt (Nat.lt_succ_self _))
            · exact absurd e (Nat.ne_of_gt hlS)
            · cases e) ns hisz hb (fun i v hv => ?_) items.size 0 _ (Nat.sub_zero _) (Nat.zero_le _) ?_ ⟨0, Nat.le_refl _, setR_new_at (Heap.get?_push_of_some _ hS)⟩ (fun s' c' hm hc' hS' => ?_)
        · have hi : i < ns.length := by rw [← hisz]; exact (Array.getElem?_eq_some_iff.mp hv).1
          obtain ⟨t, e⟩ := IntsAre.int_at hit i v (by rw [Array.getElem?_toList]; exact hv)
          refine ⟨_, t, List.getElem?_eq_getElem hi, ?_⟩
          rw [e, List.getD_eq_getElem?_getD, List.getElem?_eq_getElem hi]
          rfl
        · exact ⟨⟨_, Heap.get?_push_size _ rfl, rfl, rfl⟩, ol, Heap.get?_push_of_some _ hol', hcl, nl, hdl⟩
        · obtain ⟨h', g2, d', tk', os'⟩ := s'
          have eg := hm.gens
          have ed := hm.drawn
          have eo := hm.os
          cases eg
          cases ed
          cases eo
          refine wpAny_pure (wpAny_pure ⟨h', tk', c', rfl, rfl, hS', by omega, fun b o e => ?_⟩)
          have hb0 := Heap.lt_size e
          refine hm.heap b o ?_ (Heap.get?_push_of_some _ (Heap.get?_push_of_some _ e))
          rw [List.mem_cons, List.mem_cons]
          rintro (e | e | e)
          · exact absurd e (Nat.ne_of_lt hb0)
          · have : b = s.heap.objs.size + 1 := by rw [← hz1]; exact e
            exact absurd this (Nat.ne_of_lt (Nat.lt_succ_of_lt hb0))
          · cases e
      · obtain ⟨h', tk, c', rfl, rfl, hS', hc', hk⟩ := hr₂
        exact wpAny_pure (wpAny_ite_false (by rfl) (wpAny_pure (h h' tk c' hS' hc' hk)))
end Sx
namespace Sx
open PySem PySem.Spec L2
open PyProof.Rows hiding St
section
variable {X : Cx} {H : Hp} {Q : VK} {l : Addr} {ns : List Int}
theorem setR_keys {w : World} {h : Heap} {a : Addr} {S : Int → Bool} {n : Nat} (R : SetR w h a S n) : ∃ ks : List Int, ks.Nodup ∧ ks.length = n ∧ ∀ k, S k = true ↔ k ∈ ks := by
  obtain ⟨o, es, ep, t, _, _, _, _, h1, h2, _, _, h3, _⟩ := R
  exact ⟨es.toList.map keyOf, h1, by rw [List.length_map, Array.length_toList]; exact h3, h2⟩
def SetK (X : Cx) (H : Hp) (ns : List Int) (Q : VK) : Prop := ∀ (a : Addr) (ks : List Int), H a = none → ks.Nodup → (∀ k, k ∈ ks ↔ k ∈ ns) → Q (.ref a) (upd H a (SetO X.w a (fun j => decide (j ∈ ns)) ks.length))
theorem b_setL (hc : X.calm = true) (hp : SqL X.K H l (ns.map V.int)) (hn : ns.length ≤ 1000) (q : SetK X H ns Q) : RC X (.type "set") [.ref l] H Q := by
  intro pins s σ us I r
  rw [r.ref1]
  obtain ⟨its, hv, ⟨oo, nn, hl1, hl2, _, hl3⟩, _⟩ := I.list hp
  refine call_set_listI ns (I.ok.hd hc) ⟨oo, hl1, hl2, nn, hl3⟩ (by simpa using hv.ints) (by unfold scanBound; omega) fun h' tk c R hcl hk => ?_
  obtain ⟨ks, h1, h2, h3⟩ := setR_keys R
  subst h2
  exact ⟨.ref _, _, I.laid hk (Nat.le_refl _) (setO_new R), rfl, q _ ks I.fresh h1 fun k => by rw [← h3, decide_eq_true_eq]⟩
theorem b_setT (hc : X.calm = true) (hp : SqT X.K H l (ns.map V.int)) (hn : ns.length ≤ 1000) (q : SetK X H ns Q) : RC X (.type "set") [.ref l] H Q := by
  intro pins s σ us I r
  rw [r.ref1]
  obtain ⟨its, hv, hl, _⟩ := I.tuple hp
  refine call_set_tupI ns (I.ok.hd hc) hl (by simpa using hv.ints) (by unfold scanBound; omega) fun h' tk c R hcl hk => ?_
  obtain ⟨ks, h1, h2, h3⟩ := setR_keys R
  subst h2
  exact ⟨.ref _, _, I.laid hk (Nat.le_refl _) (setO_new R), rfl, q _ ks I.fresh h1 fun k => by rw [← h3, decide_eq_true_eq]⟩
theorem b_sortSet (hc : X.calm = true) {a : Addr} {S : Int → Bool} {n : Nat} (ha : H a = some (SetO X.w a S n)) (hn : n < 64) (q : ∀ (ms : List Int) (p : Addr), ms.Pairwise (· < ·) → (∀ k : Int, k ∈ ms ↔ S k = true) → H p = none → Q (.ref p) (upd H p (.lst (ms.map V.int)))) : RC X (.builtin "sorted") [.ref a] H Q :=
  rc_of (cr_sortedSet hc) ⟨a, S, n, rfl, ha, hn, fun ms p h1 h2 _ h4 => q ms p h1 h2 h4⟩
theorem b_sortL {ns : List Int} (hp : SqL X.K H l (ns.map V.int)) (q : ∀ (ms : List Int) (p : Addr), ms.Perm ns → ms.Pairwise (· ≤ ·) → H p = none → Q (.ref p) (upd H p (.lst (ms.map V.int)))) : RC X (.builtin "sorted") [.ref l] H Q :=
  rc_of cr_sortedI ⟨l, ns, rfl, hp, q⟩
/-- comparing data -/
theorem c_eqD {n : Nat} {x y : V} {d e : PyData} (hr : Room n X.A) (h1 : Dp X.K H x d) (h2 : Dp X.K H y e) (s1 : SeqAt.shaped d = true) (s2 : SeqAt.shaped e = true) (q : Q (.bl (PyData.eqv d e)) H) : RO X (compareOp .Eq) x y H Q :=
  ro_of (op_eqD hr.units) ⟨d, e, h1, h2, s1, s2, q⟩
theorem c_neD {n : Nat} {x y : V} {d e : PyData} (hr : Room n X.A) (h1 : Dp X.K H x d) (h2 : Dp X.K H y e) (s1 : SeqAt.shaped d = true) (s2 : SeqAt.shaped e = true) (q : Q (.bl (!PyData.eqv d e)) H) : RO X (compareOp .NotEq) x y H Q :=
  ro_of (op_neD hr.units) ⟨d, e, h1, h2, s1, s2, q⟩
end
end Sx

end
section -- Po
set_option maxRecDepth 100000
set_option maxHeartbeats 8000000
local macro_rules | `(tactic| wtm_at "sx.vis") => `(tactic| first | exact Or.inl rfl | exact Or.inr (Or.inl rfl) | exact Or.inr (Or.inr rfl))
local macro_rules | `(tactic| wtm_at "sx.loc") => `(tactic| first | exact Or.inl rfl | exact Or.inr rfl)
local macro_rules | `(tactic| wtm_at "sx.nd") => `(tactic| first | assumption | decide +kernel)
-- what stands at an address
local macro_rules | `(tactic| wtm_at "ne") => `(tactic| first | (with_reducible assumption) | (refine Ne.symm ?_; (with_reducible assumption)))
local macro_rules | `(tactic| wtm_at "hp") => `(tactic| first
  | (with_reducible assumption)
  | exact L2.upd_same
  | ((refine Sx.updN (by with_reducible assumption) ?_); wtm_at "hp")
  | ((refine Sx.updNe (by wtm_at "ne") ?_); wtm_at "hp")
  | ((refine (by with_reducible assumption : Sx.Grow _ _) _ _ ?_); wtm_at "hp"))
local macro_rules | `(tactic| wtm_at "sql") => `(tactic| first
  | assumption
  | exact L2.SqL.of (by wtm_at "hp")
  | ((refine Sx.sq_updN (by with_reducible assumption) ?_); wtm_at "sql")
  | ((refine Sx.sq_new (by with_reducible assumption) ?_); wtm_at "sql"))
local macro_rules | `(tactic| wtm_at "sqt") => `(tactic| first
  | assumption
  | exact L2.SqT.of (by wtm_at "hp")
  | ((refine Sx.st_updN (by with_reducible assumption) ?_); wtm_at "sqt")
  | ((refine Sx.st_new (by with_reducible assumption) ?_); wtm_at "sqt"))
-- expressions
local macro_rules | `(tactic| wtm_at "sx.e") => `(tactic| first
  | with_reducible refine Sx.e_int ?_
  | with_reducible refine Sx.e_bl ?_
  | with_reducible refine Sx.e_non ?_
  | with_reducible refine Sx.e_str ?_
  | ((with_reducible show Sx.RE _ (PySem.Expr.Name _ _) _ _ _); refine Sx.e_name rfl (by wtm_at "sx.vis") (by decide) (by decide) ?_)
  | ((with_reducible show Sx.RE _ (PySem.Expr.Name "int" _) _ _ _); refine Sx.e_bltn (v := .ty "int") rfl (Sx.Blt.int (by assumption)) (by decide +kernel) rfl (by decide) (by decide) ?_)
  | ((with_reducible show Sx.RE _ (PySem.Expr.Name "bool" _) _ _ _); refine Sx.e_bltn (v := .ty "bool") rfl (Sx.Blt.bool (by assumption)) (by decide +kernel) rfl (by decide) (by decide) ?_)
  | ((with_reducible show Sx.RE _ (PySem.Expr.Name "tuple" _) _ _ _); refine Sx.e_bltn (v := .ty "tuple") rfl (Sx.Blt.tuple (by assumption)) (by decide +kernel) rfl (by decide) (by decide) ?_)
  | ((with_reducible show Sx.RE _ (PySem.Expr.Name "str" _) _ _ _); refine Sx.e_bltn (v := .ty "str") rfl (Sx.Blt.str (by assumption)) (by decide +kernel) rfl (by decide) (by decide) ?_)
  | ((with_reducible show Sx.RE _ (PySem.Expr.Name "list" _) _ _ _); refine Sx.e_bltn (v := .ty "list") rfl (Sx.Blt.list (by assumption)) (by decide +kernel) rfl (by decide) (by decide) ?_)
  | ((with_reducible show Sx.RE _ (PySem.Expr.Call (PySem.Expr.Attribute _ "bit_length" _) [] [] _) _ _ _); refine Sx.e_bits rfl rfl ?_)
  | ((with_reducible show Sx.RE _ (PySem.Expr.Attribute _ "_clock" _) _ _ _); refine Sx.e_fld rfl ?_)
  | ((with_reducible show Sx.RE _ (PySem.Expr.Attribute _ "_hours" _) _ _ _); refine Sx.e_fld rfl ?_)
  | ((with_reducible show Sx.RE _ (PySem.Expr.Attribute _ "_mask" _) _ _ _); refine Sx.e_fld rfl ?_)
  | with_reducible refine Sx.e_bin ?_
  | with_reducible refine Sx.e_not ?_
  | with_reducible refine Sx.e_un ?_
  | ((with_reducible refine Sx.e_cmp ?_ ?_); (next => first | rfl | exact L2.nomark _))
  | with_reducible refine Sx.e_one ?_
  | ((with_reducible show Sx.RE _ (PySem.Expr.Compare _ [_, _] [_, _] _) _ _ _); refine Sx.e_chain (by with_unfolding_all rfl) ?_)
  | with_reducible refine Sx.e_and ?_
  | with_reducible refine Sx.e_or ?_
  | with_reducible refine Sx.e_if ?_
  | with_reducible refine Sx.e_tup ?_
  | with_reducible refine Sx.e_lst ?_
  | with_reducible refine Sx.e_sl ?_
  | ((with_reducible refine Sx.e_ix ?_ ?_); (next => exact fun _ _ => rfl))
  | wtm_at "sx.blt")
local macro_rules | `(tactic| wtm_at "sx.a") => `(tactic| first
  | with_reducible refine Sx.a_nil ?_
  | ((with_reducible refine Sx.a_cons ?_ ?_); (next => rfl)))
local macro_rules | `(tactic| wtm_at "sx.t") => `(tactic| first
  | ((with_reducible refine Sx.t_cmp ?_ ?_); (next => first | rfl | exact L2.nomark _))
  | with_reducible refine Sx.t_not ?_
  | with_reducible refine Sx.w_and ?_
  | with_reducible refine Sx.w_and1 ?_
  | with_reducible refine Sx.w_or ?_
  | with_reducible refine Sx.w_or1 ?_
  | (with_reducible refine Sx.t_pw (e := .BoolOp _ _ _) ?_)
  | ((with_reducible refine Sx.t_val ?_ ?_); (next => (intro _; rfl))))
local macro_rules | `(tactic| wtm_at "sx.s") => `(tactic| first
  | with_reducible refine Sx.ss_nil ?_
  | with_reducible refine Sx.ss_cons ?_
  | with_reducible refine Sx.s_pass ?_
  | with_reducible refine Sx.s_break ?_
  | with_reducible refine Sx.s_continue ?_
  | with_reducible refine Sx.s_ret ?_
  | with_reducible refine Sx.s_retN ?_
  | with_reducible refine Sx.s_if ?_
  | ((with_reducible refine Sx.s_expr ?_ ?_); (next => rfl))
  | ((with_reducible refine Sx.s_set ?_ ?_ ?_ ?_ ?_ ?_); (next => wtm_at "sx.nd"); (next => rfl); (next => wtm_at "sx.loc"); (next => exact .inl rfl); (next => rfl))
  | ((with_reducible refine Sx.s_fld ?_ ?_); (next => rfl))
  | ((with_reducible refine Sx.s_asg ?_ ?_ ?_ ?_); (next => rfl); (next => rfl); (next => rfl))
  | ((with_reducible show Sx.RSs _ _ _ _ _); refine Sx.ss_cons ?_))
local macro_rules | `(tactic| wtm_at "sx.g") => `(tactic| first
  | ((with_reducible refine Sx.g_name ?_ ?_ ?_ ?_ ?_); (next => wtm_at "sx.nd"); (next => rfl); (next => wtm_at "sx.loc"); (next => exact .inl rfl))
  | ((with_reducible show Sx.RG _ (PySem.Expr.Tuple _ _ _) _ _ _ _); refine Sx.g_tup rfl rfl rfl (by wtm_at "sqt") rfl ?_)
  | with_reducible refine Sx.gs_nil ?_
  | ((with_reducible refine Sx.gs_cons ?_ ?_); (next => rfl))
  | ((with_reducible refine Sx.g_sub ?_ ?_); (next => (intro _; rfl))))
-- values
local macro_rules | `(tactic| wtm_at "sx.v") => `(tactic| first
  | with_reducible refine Sx.o_add ?_
  | with_reducible refine Sx.o_sub ?_
  | with_reducible refine Sx.u_neg ?_
  | with_reducible refine Sx.o_orN ?_
  | with_reducible refine Sx.o_andN ?_
  | with_reducible refine Sx.o_andOne ?_
  | with_reducible refine Sx.o_xorN ?_
  | with_reducible refine Sx.o_shrN ?_
  | ((with_reducible refine Sx.o_oneShl ?_ ?_); (next => omega))
  | with_reducible refine Sx.tr_nat ?_
  | with_reducible refine Sx.ip_addI ?_
  | with_reducible refine Sx.u_inv ?_
  | ((with_reducible refine Sx.o_mod ?_ ?_); (next => first | decide | assumption | omega))
  | with_reducible refine Sx.c_lt ?_
  | with_reducible refine Sx.c_le ?_
  | with_reducible refine Sx.c_gt ?_
  | with_reducible refine Sx.c_ge ?_
  | with_reducible refine Sx.c_eqI ?_
  | with_reducible refine Sx.c_neI ?_
  | with_reducible refine Sx.c_eqS ?_
  | with_reducible refine Sx.c_neS ?_
  | with_reducible refine Sx.c_eqB ?_
  | with_reducible refine Sx.c_neB ?_
  | with_reducible refine Sx.c_isN ?_
  | with_reducible refine Sx.c_notN ?_
  | with_reducible refine Sx.tr_bl ?_
  | with_reducible refine Sx.tr_int ?_
  | with_reducible refine Sx.b_int ?_
  | ((with_reducible show Sx.RC _ (PySem.Value.builtin "isinstance") [L2.V.int _, L2.V.ty _] _ _); (first | refine Sx.b_isiInt (b := true) (by decide +kernel) ?_ | refine Sx.b_isiInt (b := false) (by decide +kernel) ?_))
  | ((with_reducible show Sx.RC _ (PySem.Value.builtin "isinstance") [L2.V.ref _, L2.V.ty _] _ _); (first | refine Sx.b_isiTupQ (b := true) (by wtm_at "sqt") (by decide +kernel) ?_ | refine Sx.b_isiTupQ (b := false) (by wtm_at "sqt") (by decide +kernel) ?_))
  | ((with_reducible show Sx.RSl _ (L2.V.ref _) _ _ _ _); refine Sx.sl_l (by wtm_at "sql") ?_)
  | ((with_reducible show Sx.RO _ (PySem.binaryOp .Add) (L2.V.ref _) (L2.V.ref _) _ _); refine Sx.o_cat (by wtm_at "hp") (by wtm_at "hp") (by wtm_at "size") ?_)
  | ((with_reducible refine Sx.o_pow ?_ ?_); (next => decide))
  | ((with_reducible refine Sx.b_divmod ?_ ?_); (next => first | decide | (constructor <;> omega)))
  | ((with_reducible refine Sx.o_mul ?_ ?_); (next => first | exact Sx.mulL (by omega) (by omega) | exact Sx.mulR (by omega) (by omega)))
  | ((with_reducible refine Sx.o_fdiv30 ?_ ?_); (next => first | decide | (constructor <;> omega)))
  | with_reducible refine Sx.b_abs ?_
  | ((with_reducible refine Sx.b_max2 ?_ ?_); (next => rfl))
  | ((with_reducible refine Sx.b_min2 ?_ ?_); (next => rfl))
  | ((with_reducible show Sx.RC _ (PySem.Value.builtin "len") [L2.V.ref _] _ _); refine Sx.b_lenL (by wtm_at "sql") ?_)
  | ((with_reducible show Sx.RC _ (PySem.Value.builtin "len") [L2.V.ref _] _ _); refine Sx.b_lenT (by wtm_at "sqt") ?_)
  | ((with_reducible show Sx.RC _ (PySem.Value.type "tuple") [L2.V.ref _] _ _); refine Sx.b_tupL (by wtm_at "sql") ?_)
  | ((with_reducible show Sx.RC _ (PySem.Value.type "tuple") [L2.V.ref _] _ _); refine Sx.b_tupT (by wtm_at "sqt") ?_)
  | ((with_reducible show Sx.RC _ (PySem.Value.type "list") [L2.V.ref _] _ _); refine Sx.b_lstL (by wtm_at "sql") ?_)
  | ((with_reducible show Sx.RC _ (PySem.Value.type "list") [L2.V.ref _] _ _); refine Sx.b_lstT (by wtm_at "sqt") ?_)
  | ((with_reducible show Sx.RIx _ (L2.V.ref _) (L2.V.int (OfNat.ofNat _)) _ _); refine Sx.ix_lst (by wtm_at "sql") (by rfl) ?_)
  | ((with_reducible show Sx.RIx _ (L2.V.ref _) (L2.V.int (OfNat.ofNat _)) _ _); refine Sx.ix_tp (by wtm_at "sqt") (by rfl) ?_)
  | ((with_reducible show Sx.RSet _ (L2.V.ref _) (L2.V.int (OfNat.ofNat _)) _ _ _); refine Sx.set_lst (by wtm_at "hp") (by rfl) ?_))
-- left-overs
local macro_rules | `(tactic| wtm_at "size") => `(tactic| first
  | exact Nat.le_of_ble_eq_true rfl
  | exact Sx.size5 (by first | omega | (simp only [List.length_cons, List.length_nil, List.length_append, List.length_map, List.length_replicate]; omega))
  | exact Sx.size5l (by first | omega | (simp only [List.length_cons, List.length_nil, List.length_append, List.length_map, List.length_replicate]; omega)))
local macro_rules | `(tactic| wtm_at "sx.x") => `(tactic| first
  | (with_reducible refine Sx.exI ?_)
  | ((with_reducible show ∃ a C dx fs, L2.V.ref _ = L2.V.ref a ∧ _); refine Sx.exSet (by wtm_at "hp") (by assumption) (by assumption) (Sx.few1000 (by rfl)) ?_)
  | ((with_reducible show ∃ a C dx fs v, L2.V.ref _ = L2.V.ref a ∧ _); refine Sx.exFld (by wtm_at "hp") (by assumption) (by assumption) rfl ?_)
  | (with_reducible refine L2.iteT ?_)
  | (with_reducible refine Sx.brNt ?_)
  | (with_reducible refine Sx.brNf ?_)
  | (with_reducible refine L2.iteF ?_)
  | (with_reducible refine Sx.p_none ?_)
  | (with_reducible refine Sx.p_some ?_)
  | (with_reducible refine Sx.exB ?_)
  | ((with_reducible refine Sx.lenOk ?_ ?_); (next => exact Nat.le_of_ble_eq_true rfl))
  | ((with_reducible refine Sx.allMade ?_); intro x dx hx hdx hne)
  | ((with_reducible refine Sx.allNew ?_); intro p hp))
local macro_rules | `(tactic| wtm_at "room") => `(tactic| first | assumption | exact L2.Room.mono (by assumption) (by decide))
local macro_rules | `(tactic| wtm_at "br") => `(tactic| first | exact L2.iteT ?_ | exact L2.iteF ?_)
local macro_rules | `(tactic| wtm_at "sx.u") => `(tactic| ((with_reducible show Sx.RE _ (PySem.Expr.Call (PySem.Expr.Name _ _) (_ :: _) [] _) _ _ _); first | refine Sx.e_call (by assumption) (by wtm_at "room") rfl (by decide) rfl rfl ?_ | refine Sx.e_make (by assumption) (by wtm_at "room") rfl (by decide) rfl rfl ?_))
local macro_rules | `(tactic| wtm_at "sx.blt") => `(tactic| first
  | ((with_reducible refine Sx.e_b_len ?_ ?_ ?_ ?_ ?_); (next => assumption); (next => rfl); (next => rfl); (next => rfl))
  | ((with_reducible refine Sx.e_b_int ?_ ?_ ?_ ?_ ?_); (next => assumption); (next => rfl); (next => rfl); (next => rfl))
  | ((with_reducible refine Sx.e_b_abs ?_ ?_ ?_ ?_ ?_); (next => assumption); (next => rfl); (next => rfl); (next => rfl))
  | ((with_reducible refine Sx.e_b_tuple ?_ ?_ ?_ ?_ ?_); (next => assumption); (next => rfl); (next => rfl); (next => rfl))
  | ((with_reducible refine Sx.e_b_list ?_ ?_ ?_ ?_ ?_); (next => assumption); (next => rfl); (next => rfl); (next => rfl))
  | ((with_reducible refine Sx.e_b_set ?_ ?_ ?_ ?_ ?_); (next => assumption); (next => rfl); (next => rfl); (next => rfl))
  | ((with_reducible refine Sx.e_b_sorted ?_ ?_ ?_ ?_ ?_); (next => assumption); (next => rfl); (next => rfl); (next => rfl))
  | ((with_reducible refine Sx.e_b_all ?_ ?_ ?_ ?_ ?_); (next => assumption); (next => rfl); (next => rfl); (next => rfl))
  | ((with_reducible refine Sx.e_b_divmod ?_ ?_ ?_ ?_ ?_); (next => assumption); (next => rfl); (next => rfl); (next => rfl))
  | ((with_reducible refine Sx.e_b_isinstance ?_ ?_ ?_ ?_ ?_); (next => assumption); (next => rfl); (next => rfl); (next => rfl))
  | ((with_reducible refine Sx.e_b_str ?_ ?_ ?_ ?_ ?_); (next => assumption); (next => rfl); (next => rfl); (next => rfl))
  | ((with_reducible refine Sx.e_b_repr ?_ ?_ ?_ ?_ ?_); (next => assumption); (next => rfl); (next => rfl); (next => rfl))
  | ((with_reducible refine Sx.e_b_bool ?_ ?_ ?_ ?_ ?_); (next => assumption); (next => rfl); (next => rfl); (next => rfl))
  | ((with_reducible refine Sx.e_b_min ?_ ?_ ?_ ?_ ?_); (next => assumption); (next => rfl); (next => rfl); (next => rfl))
  | ((with_reducible refine Sx.e_b_max ?_ ?_ ?_ ?_ ?_); (next => assumption); (next => rfl); (next => rfl); (next => rfl))
  | ((with_reducible refine Sx.e_b_sum ?_ ?_ ?_ ?_ ?_); (next => assumption); (next => rfl); (next => rfl); (next => rfl)))
local macro_rules | `(tactic| wtm_at "sx1") => `(tactic| first | ((with_reducible show Sx.RE _ _ _ _ _); first | wtm_at "sx.e" | wtm_at "sx.u") | wtm_at "sx.a" | wtm_at "sx.v" | wtm_at "sx.t" | wtm_at "sx.s" | wtm_at "sx.g" | wtm_at "sx.x" | wtm_at "sx.u")
local macro_rules | `(tactic| wtm_at "sx") => `(tactic| (wtm_at "sx1"; repeat wtm_at "sx1"))
local macro_rules | `(tactic| wtm_at "forL") => `(tactic| refine Sx.s_forL (fun _ => rfl) PySem.PassesOwn.never rfl ?_)
local macro_rules | `(tactic| wtm_at "lcL") => `(tactic| refine Sx.e_lcL (Sx.at_idx rfl) rfl (by wtm_at "sx.nd") (by rfl) (by decide) (fun _ => rfl) ?_)
local macro_rules | `(tactic| wtm_at "forT") => `(tactic| refine Sx.s_forT (fun _ => rfl) PySem.PassesOwn.never rfl ?_)
local macro_rules | `(tactic| wtm_at "lcT") => `(tactic| refine Sx.e_lcT (Sx.at_idx rfl) rfl (by wtm_at "sx.nd") (by rfl) (by decide) (fun _ => rfl) ?_)
local macro_rules | `(tactic| wtm_at "forR1") => `(tactic| refine Sx.s_forR1 PySem.PassesOwn.never rfl (by assumption) rfl rfl ?_)
local macro_rules | `(tactic| wtm_at "lcR1") => `(tactic| refine Sx.e_lcR1 (Sx.at_idx rfl) rfl (by wtm_at "sx.nd") (by rfl) (by decide) (by assumption) rfl rfl ?_)
local macro_rules | `(tactic| wtm_at "forR2") => `(tactic| refine Sx.s_forR2 PySem.PassesOwn.never rfl (by assumption) rfl rfl rfl ?_)
local macro_rules | `(tactic| wtm_at "lcR2") => `(tactic| refine Sx.e_lcR2 (Sx.at_idx rfl) rfl (by wtm_at "sx.nd") (by rfl) (by decide) (by assumption) rfl rfl rfl ?_)
local macro_rules | `(tactic| wtm_at "lcn") => `(tactic| exact ⟨Sx.at_idx rfl, fun _ _ _ _ _ => (by wtm_at "sx.loc"), fun _ _ _ _ _ => (by wtm_at "sx.loc")⟩)
local macro_rules | `(tactic| wtm_at "norm") => `(tactic| (refine Sx.normS (σ' := ?_) (by (try simp only [Sx.setN]); exact rfl) ?_))
-- attributes
local macro_rules | `(tactic| wtm_at "fld") => `(tactic| ((with_reducible refine Sx.e_fld ?_ ?_); (next => rfl)))
local macro_rules | `(tactic| wtm_at "aug") => `(tactic| refine Sx.s_aug (by wtm_at "sx.nd") (by wtm_at "sx.loc") (.inl rfl) rfl ?_)
local macro_rules | `(tactic| wtm_at "forET") => `(tactic| refine Sx.s_forET PySem.PassesOwn.never rfl (by assumption) rfl rfl ?_)
local macro_rules | `(tactic| wtm_at "app") => `(tactic| ((with_reducible show Sx.RE _ (PySem.Expr.Call (PySem.Expr.Attribute _ "append" _) [_] [] _) _ _ _); refine Sx.e_append rfl rfl rfl rfl rfl ?_))
local macro_rules | `(tactic| wtm_at "sx.v2") => `(tactic| first
  | ((with_reducible show Sx.RO _ (PySem.binaryOp .Add) (L2.V.ref _) (L2.V.ref _) _ _); refine Sx.o_catT' (by wtm_at "sqt") (by wtm_at "sqt") (by wtm_at "size") ?_; intro p Hc gc hc)
  | ((with_reducible show Sx.RO _ (PySem.compareOp .In) (L2.V.int _) (L2.V.ref _) _ _); refine Sx.c_inT (by wtm_at "sqt") ?_)
  | ((with_reducible show Sx.RO _ (PySem.compareOp .NotIn) (L2.V.int _) (L2.V.ref _) _ _); refine Sx.c_notInT (by wtm_at "sqt") ?_))
local macro_rules | `(tactic| wtm_at "par3") => `(tactic| refine Sx.s_par3 rfl (by wtm_at "sx.nd") rfl rfl rfl (by decide) (by decide) (by decide) rfl rfl rfl rfl rfl ?_)
local macro_rules | `(tactic| wtm_at "par2") => `(tactic| refine Sx.s_par rfl (by wtm_at "sx.nd") rfl rfl (by decide) rfl rfl rfl rfl ?_)
-- runs on until an operator of two values stands first
local macro_rules | `(tactic| wtm_at "sxo") => `(tactic| repeat ((fail_if_success (with_reducible show Sx.RO _ _ _ _ _ _)); wtm_at "sx1"))
namespace Pk
open PySem L2 Sx Mx
section
variable {P : Program} {w : World} {K : PySem.W.Frag} {mg : Str → Option Value} {base : Heap} {C : Addr}
abbrev PropN (P : Program) (w : World) (K : PySem.W.Frag) (mg : Str → Option Value) (base : Heap) (C : Addr) := PropOk P w K mg base C "clock" 1 ["self"] (spGetN K C)
abbrev PropH (P : Program) (w : World) (K : PySem.W.Frag) (mg : Str → Option Value) (base : Heap) (C : Addr) := PropOk P w K mg base C "hours" 1 ["self"] (spGetH K C)
/-! ### a second set -/
def spOther (K : PySem.W.Frag) (C : Addr) : Sp := fun vs H Q _ => ∃ (n : Nat) (b : Addr) (rb : List Nat), vs = [.int n, .ref b] ∧ HoursAt K C H b n rb ∧ Q .non H
theorem scOther : FnScope ["clock", "other"] ["clock", "other"] (defScope (top 33)) := ⟨rfl, rfl, rfl, by decide +kernel, rfl, by decide +kernel, by decide +kernel⟩
theorem ok_other {f : Addr} {fd : FuncData} (F : Fun K "check_other" "check_other" (top 33) f fd) (T : Txt K mg C) (pN : PropN P w K mg base C) : FnOk P w K mg base CX0 3 f fd ["clock", "other"] (spOther K C) := by
  refine F.ok scOther (fun vs H Q E h => ?_) (fun cdv A outer s H vs Q E hr h => ?_)
  · obtain ⟨n, b, rb, rfl, _⟩ := h
    rfl
  · obtain ⟨n, b, rb, rfl, hB, k⟩ := h
    obtain ⟨hv, dx, t, hb, ht⟩ := id hB
    have nd := scOther.nd
    have B := T.B
    have cl := T.cl
    refine ⟨_, rss _, ?_⟩
    wtm_at "sx"
    refine Sx.e_glob rfl T.gC (rr C) (by decide) ?_
    wtm_at "sx"
    refine b_isiOwn T.ins hb ?_
    wtm_at "sx"
    refine e_propOk pN cl (by wtm_at "room") rfl ?_
    wtm_at "sx"
    refine exObj hb ?_
    refine ⟨b, n, rb, rfl, hB, ?_⟩
    wtm_at "sx"
    refine brNF (by simp) ?_
    wtm_at "sx"
    exact k
/-! ### operators: two sets -/
def spBin (K : PySem.W.Frag) (C : Addr) (g : Nat → Nat → Nat → Nat) : Sp := fun vs H Q _ => ∃ (a b : Addr) (n : Nat) (ra rb : List Nat), vs = [.ref a, .ref b] ∧ HoursAt K C H a n ra ∧ HoursAt K C H b n rb ∧
  ∀ (p : Addr) (H' : Hp), Grow H H' → H p = none → HoursAt K C H' p n (bitsL (g n (maskN ra) (maskN rb))) → Q (.ref p) H'
def spUn (K : PySem.W.Frag) (C : Addr) (g : Nat → Nat → Nat) : Sp := fun vs H Q _ => ∃ (a : Addr) (n : Nat) (ra : List Nat), vs = [.ref a] ∧ HoursAt K C H a n ra ∧
  ∀ (p : Addr) (H' : Hp), Grow H H' → H p = none → HoursAt K C H' p n (bitsL (g n (maskN ra))) → Q (.ref p) H'
def spNum (K : PySem.W.Frag) (C : Addr) (g : Nat → Nat → Int → Nat) : Sp := fun vs H Q _ => ∃ (a : Addr) (i : Int) (n : Nat) (ra : List Nat), vs = [.ref a, .int i] ∧ HoursAt K C H a n ra ∧
  ∀ (p : Addr) (H' : Hp), Grow H H' → H p = none → HoursAt K C H' p n (bitsL (g n (maskN ra) i)) → Q (.ref p) H'
theorem scaleN_lt {n m : Nat} {f : Int} (h : 1 ≤ n) : scaleN n m f < 2 ^ n := maskN_lt fun k hk => by
  obtain ⟨z, _, rfl⟩ := List.mem_map.mp hk
  have h0 : 0 ≤ (z : Int) * f % (n : Int) := Int.emod_nonneg _ (by omega)
  have h1 : (z : Int) * f % (n : Int) < n := Int.emod_lt_of_pos _ (by omega)
  omega
theorem or_lt {n a b : Nat} (ha : a < 2 ^ n) (hb : b < 2 ^ n) : a ||| b < 2 ^ n := Nat.or_lt_two_pow ha hb
theorem and_lt {n a b : Nat} (ha : a < 2 ^ n) : a &&& b < 2 ^ n := Nat.lt_of_le_of_lt Nat.and_le_left ha
theorem whole_lt (n : Nat) : 1 <<< n - 1 < 2 ^ n := by rw [Nat.one_shiftLeft]; have := Nat.two_pow_pos n; omega
theorem xor_lt {n a : Nat} (ha : a < 2 ^ n) : a ^^^ (1 <<< n - 1) < 2 ^ n := Nat.xor_lt_two_pow ha (whole_lt n)
theorem Valid.mask {n : Nat} {row : List Nat} (h : Valid n row) : maskN row < 2 ^ n := maskN_lt h.lt
theorem scAdd : FnScope ["self", "other"] ["self", "other"] (defScope (inClass (top 31) 7)) := ⟨rfl, rfl, rfl, by decide +kernel, rfl, by decide +kernel, by decide +kernel⟩
theorem ok_add {f : Addr} {fd : FuncData} (F : Fun K "__add__" "Hours.__add__" (inClass (top 31) 7) f fd) (T : Txt K mg C) (c1 : Ca P w K mg base "check_other" 3 ["clock", "other"] (spOther K C)) (c2 : Ca P w K mg base "sums" 3 ["clock", "one", "other"] spSums) (c3 : Ca P w K mg base "of_mask" 7 ["clock", "mask"] (spOfMask K C)) :
    FnOk P w K mg base CX0 8 f fd ["self", "other"] (spBin K C sumsN) := by
  refine F.ok scAdd (fun vs H Q E h => ?_) (fun cdv A outer s H vs Q E hr h => ?_)
  · obtain ⟨a, b, n, ra, rb, rfl, _⟩ := h
    rfl
  · obtain ⟨a, b, n, ra, rb, rfl, hA, hB, k⟩ := h
    obtain ⟨hv, dx, t, ha, ht⟩ := id hA
    obtain ⟨hv', dx', t', hb, ht'⟩ := id hB
    have nd := scAdd.nd
    have B := T.B
    have cl := T.cl
    have nC := T.nC
    have nM := T.nM
    refine ⟨_, rss _, ?_⟩
    wtm_at "sx"
    refine ⟨n, b, rb, rfl, hB, ?_⟩
    wtm_at "sx"
    refine ⟨n, _, _, rfl, by have := hv.le; omega, pow_le hv.le hv.mask, pow_le hv.le hv'.mask, fun H1 g1 => ?_⟩
    wtm_at "sx"
    refine ⟨n, _, rfl, hv.pos, hv.le, wrapN_lt _ _, fun p H' g hp hh => k p H' (g1.trans g) (g1.free hp) hh⟩
theorem scSub : FnScope ["self", "other", "negative"] ["self", "other"] (defScope (inClass (top 31) 8)) := ⟨rfl, rfl, rfl, by decide +kernel, rfl, by decide +kernel, by decide +kernel⟩
def subN (n a b : Nat) : Nat := sumsN n a (scaleN n b (-1))
theorem ok_sub {f : Addr} {fd : FuncData} (F : Fun K "__sub__" "Hours.__sub__" (inClass (top 31) 8) f fd) (T : Txt K mg C) (c1 : Ca P w K mg base "check_other" 3 ["clock", "other"] (spOther K C)) (c2 : Ca P w K mg base "sums" 3 ["clock", "one", "other"] spSums) (c3 : Ca P w K mg base "of_mask" 7 ["clock", "mask"] (spOfMask K C))
    (c4 : Ca P w K mg base "scaled" 2 ["clock", "mask", "factor"] spScaled) : FnOk P w K mg base CX0 8 f fd ["self", "other"] (spBin K C subN) := by
  refine F.ok scSub (fun vs H Q E h => ?_) (fun cdv A outer s H vs Q E hr h => ?_)
  · obtain ⟨a, b, n, ra, rb, rfl, _⟩ := h
    rfl
  · obtain ⟨a, b, n, ra, rb, rfl, hA, hB, k⟩ := h
    obtain ⟨hv, dx, t, ha, ht⟩ := id hA
    obtain ⟨hv', dx', t', hb, ht'⟩ := id hB
    have nd := scSub.nd
    have B := T.B
    have cl := T.cl
    have nC := T.nC
    have nM := T.nM
    refine ⟨_, rss _, ?_⟩
    wtm_at "sx"
    refine ⟨n, b, rb, rfl, hB, ?_⟩
    wtm_at "sx"
    refine ⟨n, _, _, rfl, hv.pos, by have := hv.le; omega, pow_le hv.le hv'.mask, fun H1 g1 => ?_⟩
    have ha1 := g1 _ _ ha
    wtm_at "sx"
    refine ⟨n, _, _, rfl, by have := hv.le; omega, pow_le hv.le hv.mask, pow_le hv.le (scaleN_lt hv.pos), fun H2 g2 => ?_⟩
    wtm_at "sx"
    refine ⟨n, _, rfl, hv.pos, hv.le, wrapN_lt _ _, fun p H' g hp hh => k p H' ((g1.trans g2).trans g) ((g1.trans g2).free hp) hh⟩
theorem scOr : FnScope ["self", "other"] ["self", "other"] (defScope (inClass (top 31) 9)) := ⟨rfl, rfl, rfl, by decide +kernel, rfl, by decide +kernel, by decide +kernel⟩
theorem ok_or {f : Addr} {fd : FuncData} (F : Fun K "__or__" "Hours.__or__" (inClass (top 31) 9) f fd) (T : Txt K mg C) (c1 : Ca P w K mg base "check_other" 3 ["clock", "other"] (spOther K C)) (c3 : Ca P w K mg base "of_mask" 7 ["clock", "mask"] (spOfMask K C)) :
    FnOk P w K mg base CX0 8 f fd ["self", "other"] (spBin K C fun _ a b => a ||| b) := by
  refine F.ok scOr (fun vs H Q E h => ?_) (fun cdv A outer s H vs Q E hr h => ?_)
  · obtain ⟨a, b, n, ra, rb, rfl, _⟩ := h
    rfl
  · obtain ⟨a, b, n, ra, rb, rfl, hA, hB, k⟩ := h
    obtain ⟨hv, dx, t, ha, ht⟩ := id hA
    obtain ⟨hv', dx', t', hb, ht'⟩ := id hB
    have nd := scOr.nd
    have B := T.B
    have cl := T.cl
    have nC := T.nC
    have nM := T.nM
    refine ⟨_, rss _, ?_⟩
    wtm_at "sx"
    refine ⟨n, b, rb, rfl, hB, ?_⟩
    wtm_at "sx"
    exact ⟨n, _, rfl, hv.pos, hv.le, or_lt hv.mask hv'.mask, fun p H' g hp hh => k p H' g hp hh⟩
theorem scAnd : FnScope ["self", "other"] ["self", "other"] (defScope (inClass (top 31) 10)) := ⟨rfl, rfl, rfl, by decide +kernel, rfl, by decide +kernel, by decide +kernel⟩
theorem ok_and {f : Addr} {fd : FuncData} (F : Fun K "__and__" "Hours.__and__" (inClass (top 31) 10) f fd) (T : Txt K mg C) (c1 : Ca P w K mg base "check_other" 3 ["clock", "other"] (spOther K C)) (c3 : Ca P w K mg base "of_mask" 7 ["clock", "mask"] (spOfMask K C)) :
    FnOk P w K mg base CX0 8 f fd ["self", "other"] (spBin K C fun _ a b => a &&& b) := by
  refine F.ok scAnd (fun vs H Q E h => ?_) (fun cdv A outer s H vs Q E hr h => ?_)
  · obtain ⟨a, b, n, ra, rb, rfl, _⟩ := h
    rfl
  · obtain ⟨a, b, n, ra, rb, rfl, hA, hB, k⟩ := h
    obtain ⟨hv, dx, t, ha, ht⟩ := id hA
    obtain ⟨hv', dx', t', hb, ht'⟩ := id hB
    have nd := scAnd.nd
    have B := T.B
    have cl := T.cl
    have nC := T.nC
    have nM := T.nM
    refine ⟨_, rss _, ?_⟩
    wtm_at "sx"
    refine ⟨n, b, rb, rfl, hB, ?_⟩
    wtm_at "sx"
    exact ⟨n, _, rfl, hv.pos, hv.le, and_lt hv.mask, fun p H' g hp hh => k p H' g hp hh⟩
theorem scInv : FnScope ["self"] ["self"] (defScope (inClass (top 31) 11)) := ⟨rfl, rfl, rfl, by decide +kernel, rfl, by decide +kernel, by decide +kernel⟩
theorem ok_inv {f : Addr} {fd : FuncData} (F : Fun K "__invert__" "Hours.__invert__" (inClass (top 31) 11) f fd) (T : Txt K mg C) (c1 : Ca P w K mg base "whole_mask" 1 ["clock"] spWhole) (c3 : Ca P w K mg base "of_mask" 7 ["clock", "mask"] (spOfMask K C)) :
    FnOk P w K mg base CX0 8 f fd ["self"] (spUn K C fun n a => a ^^^ (1 <<< n - 1)) := by
  refine F.ok scInv (fun vs H Q E h => ?_) (fun cdv A outer s H vs Q E hr h => ?_)
  · obtain ⟨a, n, ra, rfl, _⟩ := h
    rfl
  · obtain ⟨a, n, ra, rfl, hA, k⟩ := h
    obtain ⟨hv, dx, t, ha, ht⟩ := id hA
    have nd := scInv.nd
    have B := T.B
    have cl := T.cl
    have nC := T.nC
    have nM := T.nM
    refine ⟨_, rss _, ?_⟩
    wtm_at "sx"
    refine ⟨n, rfl, by have := hv.le; omega, ?_⟩
    wtm_at "sx"
    exact ⟨n, _, rfl, hv.pos, hv.le, xor_lt hv.mask, fun p H' g hp hh => k p H' g hp hh⟩
theorem scNeg : FnScope ["self"] ["self"] (defScope (inClass (top 31) 12)) := ⟨rfl, rfl, rfl, by decide +kernel, rfl, by decide +kernel, by decide +kernel⟩
theorem ok_neg {f : Addr} {fd : FuncData} (F : Fun K "__neg__" "Hours.__neg__" (inClass (top 31) 12) f fd) (T : Txt K mg C) (c4 : Ca P w K mg base "scaled" 2 ["clock", "mask", "factor"] spScaled) (c3 : Ca P w K mg base "of_mask" 7 ["clock", "mask"] (spOfMask K C)) :
    FnOk P w K mg base CX0 8 f fd ["self"] (spUn K C fun n a => scaleN n a (-1)) := by
  refine F.ok scNeg (fun vs H Q E h => ?_) (fun cdv A outer s H vs Q E hr h => ?_)
  · obtain ⟨a, n, ra, rfl, _⟩ := h
    rfl
  · obtain ⟨a, n, ra, rfl, hA, k⟩ := h
    obtain ⟨hv, dx, t, ha, ht⟩ := id hA
    have nd := scNeg.nd
    have B := T.B
    have cl := T.cl
    have nC := T.nC
    have nM := T.nM
    refine ⟨_, rss _, ?_⟩
    wtm_at "sx"
    refine ⟨n, _, _, rfl, hv.pos, by have := hv.le; omega, pow_le hv.le hv.mask, fun H1 g1 => ?_⟩
    wtm_at "sx"
    exact ⟨n, _, rfl, hv.pos, hv.le, scaleN_lt hv.pos, fun p H' g hp hh => k p H' (g1.trans g) (g1.free hp) hh⟩
theorem scMul : FnScope ["self", "other"] ["self", "other"] (defScope (inClass (top 31) 13)) := ⟨rfl, rfl, rfl, by decide +kernel, rfl, by decide +kernel, by decide +kernel⟩
theorem ok_mul {f : Addr} {fd : FuncData} (F : Fun K "__mul__" "Hours.__mul__" (inClass (top 31) 13) f fd) (T : Txt K mg C) (c1 : Ca P w K mg base "check_integer" 2 ["number"] spCkInt) (c4 : Ca P w K mg base "scaled" 2 ["clock", "mask", "factor"] spScaled) (c3 : Ca P w K mg base "of_mask" 7 ["clock", "mask"] (spOfMask K C)) :
    FnOk P w K mg base CX0 8 f fd ["self", "other"] (spNum K C scaleN) := by
  refine F.ok scMul (fun vs H Q E h => ?_) (fun cdv A outer s H vs Q E hr h => ?_)
  · obtain ⟨a, i, n, ra, rfl, _⟩ := h
    rfl
  · obtain ⟨a, i, n, ra, rfl, hA, k⟩ := h
    obtain ⟨hv, dx, t, ha, ht⟩ := id hA
    have nd := scMul.nd
    have B := T.B
    have cl := T.cl
    have nC := T.nC
    have nM := T.nM
    refine ⟨_, rss _, ?_⟩
    wtm_at "sx"
    refine ⟨i, rfl, ?_⟩
    wtm_at "sx"
    refine ⟨n, _, _, rfl, hv.pos, by have := hv.le; omega, pow_le hv.le hv.mask, fun H1 g1 => ?_⟩
    wtm_at "sx"
    exact ⟨n, _, rfl, hv.pos, hv.le, scaleN_lt hv.pos, fun p H' g hp hh => k p H' (g1.trans g) (g1.free hp) hh⟩
theorem scMoved : FnScope ["self", "by"] ["self", "by"] (defScope (inClass (top 31) 15)) := ⟨rfl, rfl, rfl, by decide +kernel, rfl, by decide +kernel, by decide +kernel⟩
def movedN (n m : Nat) (b : Int) : Nat := turnN n m (b % n).toNat
theorem ok_moved {f : Addr} {fd : FuncData} (F : Fun K "moved" "Hours.moved" (inClass (top 31) 15) f fd) (T : Txt K mg C) (c1 : Ca P w K mg base "check_integer" 2 ["number"] spCkInt) (c4 : Ca P w K mg base "turned" 3 ["clock", "mask", "by"] spTurned) (c3 : Ca P w K mg base "of_mask" 7 ["clock", "mask"] (spOfMask K C)) :
    FnOk P w K mg base CX0 8 f fd ["self", "by"] (spNum K C movedN) := by
  refine F.ok scMoved (fun vs H Q E h => ?_) (fun cdv A outer s H vs Q E hr h => ?_)
  · obtain ⟨a, i, n, ra, rfl, _⟩ := h
    rfl
  · obtain ⟨a, i, n, ra, rfl, hA, k⟩ := h
    obtain ⟨hv, dx, t, ha, ht⟩ := id hA
    have nd := scMoved.nd
    have B := T.B
    have cl := T.cl
    have nC := T.nC
    have nM := T.nM
    refine ⟨_, rss _, ?_⟩
    wtm_at "sx"
    refine ⟨i, rfl, ?_⟩
    wtm_at "sx"
    refine ⟨n, _, i, rfl, hv.pos, by have := hv.le; omega, pow_le hv.le hv.mask, ?_⟩
    wtm_at "sx"
    exact ⟨n, _, rfl, hv.pos, hv.le, wrapN_lt _ _, fun p H' g hp hh => k p H' g hp hh⟩
/-! ### equality -/
abbrev rowD (row : List Nat) : PyData := .tuple (row.map fun k : Nat => .int k)
theorem dpAll_row {K : PySem.W.Frag} {H : Hp} : ∀ row : List Nat, DpAll K H (rowV row) (row.map fun k : Nat => PyData.int k)
  | [] => .nil
  | k :: r => .cons (.int k) (dpAll_row r)
theorem dp_row {K : PySem.W.Frag} {H : Hp} {t : Addr} {row : List Nat} (h : SqT K H t (rowV row)) : Dp K H (.ref t) (rowD row) := .tup h (dpAll_row row)
theorem eqvAll_row : ∀ a b : List Nat, PyData.eqvAll (a.map fun k : Nat => PyData.int k) (b.map fun k : Nat => PyData.int k) = decide (a = b)
  | [], [] => by simp [PyData.eqvAll]
  | [], _ :: _ => by simp [PyData.eqvAll]
  | _ :: _, [] => by simp [PyData.eqvAll]
  | x :: a, y :: b => by
    rw [List.map_cons, List.map_cons, PyData.eqvAll.eq_2, eqvAll_row a b]
    simp only [PyData.eqv]
    by_cases h1 : x = y
    · subst h1; simp
    · simp [h1]; intro h; exact absurd (by exact_mod_cast h) h1
theorem eqv_row (a b : List Nat) : (rowD a).eqv (rowD b) = decide (a = b) := by
  show PyData.eqv (.tuple _) (.tuple _) = _
  rw [PyData.eqv.eq_8]
  exact eqvAll_row a b
theorem shaped_row (a : List Nat) : SeqAt.shaped (rowD a) = true := by
  have h := PySem.W.shaped_ints (a.map fun k : Nat => (k : Int))
  rw [List.map_map] at h
  simpa [SeqAt.shaped, PyData.canLay0, PyData.depth, Function.comp_def] using h
def spEq (K : PySem.W.Frag) (C : Addr) : Sp := fun vs H Q _ => ∃ (a b : Addr) (n m : Nat) (ra rb : List Nat), vs = [.ref a, .ref b] ∧ HoursAt K C H a n ra ∧ HoursAt K C H b m rb ∧ Q (.bl (decide (n = m ∧ ra = rb))) H
theorem scEq : FnScope ["self", "other"] ["self", "other"] (defScope (inClass (top 31) 24)) := ⟨rfl, rfl, rfl, by decide +kernel, rfl, by decide +kernel, by decide +kernel⟩
theorem ok_eq {f : Addr} {fd : FuncData} (F : Fun K "__eq__" "Hours.__eq__" (inClass (top 31) 24) f fd) (T : Txt K mg C) : FnOk P w K mg base CX0 8 f fd ["self", "other"] (spEq K C) := by
  refine F.ok scEq (fun vs H Q E h => ?_) (fun cdv A outer s H vs Q E hr h => ?_)
  · obtain ⟨a, b, n, m, ra, rb, rfl, _⟩ := h
    rfl
  · obtain ⟨a, b, n, m, ra, rb, rfl, hA, hB, k⟩ := h
    obtain ⟨hv, dx, t, ha, ht⟩ := id hA
    obtain ⟨hv', dx', t', hb, ht'⟩ := id hB
    have nd := scEq.nd
    have B := T.B
    have cl := T.cl
    have nC := T.nC
    have nH := T.nH
    refine ⟨_, rss _, ?_⟩
    wtm_at "sx"
    refine Sx.e_glob rfl T.gC (rr C) (by decide) ?_
    wtm_at "sx"
    refine b_isiOwn T.ins hb ?_
    wtm_at "sx"
    refine brD (fun h1 => ?_) (fun h1 => ?_)
    · wtm_at "sx"
      refine c_eqD (n := 7) hr (dp_row ht) (dp_row ht') (shaped_row _) (shaped_row _) ?_
      rw [eqv_row, show decide (ra = rb) = decide (n = m ∧ ra = rb) by simp [show n = m by omega]]
      exact k
    · rw [show decide (n = m ∧ ra = rb) = false by simp; intro e; exact absurd (by exact_mod_cast e) h1] at k
      exact k
end
end Pk

end
section -- Sz
set_option maxRecDepth 100000
set_option maxHeartbeats 4000000
namespace Sx
open PySem PySem.Spec L2
open PyProof.Rows hiding St
section
variable {X : Cx} {H : Hp} {Q : VK} {σ : St}
/-- tuple + tuple -/
theorem o_catT {a b : Addr} {xs ys : List V} (h1 : SqT X.K H a xs) (h2 : SqT X.K H b ys) (hz : xs.length + ys.length ≤ sizeLine) (q1 : xs = [] → Q (.ref b) H) (q2 : xs ≠ [] → ys = [] → Q (.ref a) H) (q3 : xs ≠ [] → ys ≠ [] → ∀ p, H p = none → Q (.ref p) (upd H p (.tup (xs ++ ys)))) : RO X (binaryOp .Add) (.ref a) (.ref b) H Q :=
  ro_of op_catA ⟨a, b, xs, ys, rfl, rfl, h1, h2, hz, q1, q2, q3⟩
/-- the same, told as one -/
theorem o_catT' {a b : Addr} {xs ys : List V} (h1 : SqT X.K H a xs) (h2 : SqT X.K H b ys) (hz : xs.length + ys.length ≤ sizeLine) (q : ∀ p H', (∀ c o, H c = some o → H' c = some o) → SqT X.K H' p (xs ++ ys) → Q (.ref p) H') : RO X (binaryOp .Add) (.ref a) (.ref b) H Q :=
  o_catT h1 h2 hz (fun e => q b H (fun _ _ h => h) (by rw [e]; exact h2)) (fun _ e => q a H (fun _ _ h => h) (by rw [e, List.append_nil]; exact h1)) (fun _ _ p hp => q p _ (Grow.upd hp) (SqT.of upd_same))
theorem flat_ints (ns : List Int) : (ns.map V.int).all flatV = true := by
  rw [List.all_eq_true]
  intro x hx
  obtain ⟨i, _, rfl⟩ := List.mem_map.mp hx
  rfl
theorem inV_ints (i : Int) (ns : List Int) : inV (.int i) (ns.map V.int) = decide (i ∈ ns) := by
  unfold inV
  induction ns with
  | nil => simp
  | cons n r ih =>
    rw [List.map_cons, List.any_cons, ih]
    simp only [List.mem_cons, Bool.decide_or]
    congr 1
    show eqV (.int n) (.int i) = _
    by_cases h : i = n
    · subst h; simp [eqV]
    · have h' : n ≠ i := fun e => h e.symm
      simp [eqV, h, h']
theorem c_inT {p : Addr} {i : Int} {ns : List Int} (h : SqT X.K H p (ns.map V.int)) (q : Q (.bl (decide (i ∈ ns))) H) : RO X (compareOp .In) (.int i) (.ref p) H Q :=
  ro_of op_in_seq ⟨p, _, rfl, .inr h, rfl, flat_ints ns, by rw [inV_ints]; exact q⟩
theorem c_notInT {p : Addr} {i : Int} {ns : List Int} (h : SqT X.K H p (ns.map V.int)) (q : Q (.bl (!decide (i ∈ ns))) H) : RO X (compareOp .NotIn) (.int i) (.ref p) H Q :=
  ro_of op_notIn_seq ⟨p, _, rfl, .inr h, rfl, flat_ints ns, by rw [inV_ints]; exact q⟩
/-- xs.append(e) -/
theorem e_append {o e : Expr} {apos cpos : Pos} (hab : attributeBase o "append" X.env (eval o X.env) = eval o X.env)
    (h2 : (((((backTo cpos (starEach [e] X.env)).all fun x => !x.1) && (backToKw cpos (keywordEach [] X.env)).all fun x => x.1.isSome) && decide (([e].length + ([] : List Keyword).length + if ([] : List Keyword).isEmpty = true then 0 else 1) < 30)) = true)) (h3 : (apos.endLine == cpos.line) = true) (h4 : starEach [e] X.env = (false, eval e X.env) :: starEach [] X.env) (h5 : (backTo cpos (starEach [] X.env)).any (·.1) = false)
    (q : RE X o σ H fun x H1 => ∃ l xs, x = .ref l ∧ H1 l = some (.lst xs) ∧ RA X [e] σ H1 fun zs H2 => ∃ y ys, zs = [y] ∧ H2 l = some (.lst ys) ∧ ys.length < sizeLine ∧ Q .non (upd H2 l (.lst (ys ++ [y])))) : RE X (.Call (.Attribute o "append" apos) [e] [] cpos) σ H Q := by
  refine re_of (pe_bm PySem.F.plainAttrs_list PySem.F.slot_list_append PySem.F.type_list_append mt_append (re o) (ra _) hab h2 h3 h4 h5) ?_
  refine fun pins s I => thn (q pins s I) fun u s' h => ?_
  obtain ⟨v, H', I', r, l, xs, rfl, e2, q⟩ := h
  refine ⟨_, H', I', r, .inl ⟨rfl, xs, SqL.of e2⟩, fun ps' pins s I => thn (q ps' pins s I) fun u s' h => ?_⟩
  obtain ⟨zs, H', I', r, y, ys, e1, e3, e4, q⟩ := h
  subst e1
  exact ⟨_, H', I', r, l, ys, y, rfl, rfl, e3, e4, q⟩
/-- one value, one keyword -/
def kg1 {α : Type} : List α → List α → List α
  | [a], [b] => [a, b]
  | _, _ => []
/-- a.m(k=e) -/
structure MethKOk (P : Program) (w : World) (K : PySem.W.Frag) (mg : Str → Option Value) (base : Heap) (C : Addr) (m kw : Str) (k : Nat) (ps : List Str) (sp : Sp) : Prop where
  ex : ∃ (f : Addr) (fd : FuncData), FnOk P w K mg base CX0 k f fd ps sp ∧ Meth K C m f ∧ KBinds K fd ps [kw] kg1 kg1
theorem e_methK {o e : Expr} {m kw : Str} {C : Addr} {k : Nat} {ps : List Str} {sp : Sp} {apos pos kpos : Pos} {pl : Sem Bool} (c : Cls X.K C) (M : MethKOk X.prog X.w X.K X.mg X.base C m kw k ps sp) (hr : Room k X.A)
    (ht : eval (.Call (.Attribute o m apos) [] [⟨some kw, e, kpos⟩] pos) X.env = (do let z ← eval o X.env; standAt apos.atName; let (y, first) ← holding [z] (getMethod z m pl); callWith pos y first (backTo pos (starEach [] X.env)) (backToKw pos (keywordEach [⟨some kw, e, kpos⟩] X.env))))
    (hall : ((backToKw pos (keywordEach [⟨some kw, e, kpos⟩] X.env)).all fun x => x.1.isSome) = true) (hks : (backToKw pos (keywordEach [⟨some kw, e, kpos⟩] X.env)).filterMap (fun x => x.1) = [kw]) (hpl : (((backTo pos (starEach [] X.env)).any fun x => x.1) || (backToKw pos (keywordEach [⟨some kw, e, kpos⟩] X.env)).any fun x => x.1.isNone) = false)
    (q : RE X o σ H fun v H1 => ∃ a dx fs, v = .ref a ∧ H1 a = some (.ins C dx fs) ∧ fs.lookup m = none ∧ RE X e σ H1 fun y H2 => sp [v, y] H2 Q E0) : RE X (.Call (.Attribute o m apos) [] [⟨some kw, e, kpos⟩] pos) σ H Q := by
  obtain ⟨f, fd, F, hm, KB⟩ := M.ex
  intro pins s I
  refine PySem.W.methodCall_KW (thn (q pins s I) fun u s1 h => ?_) ht
  obtain ⟨v, H1, I1, r, a, dx, fs, rfl, ea, hl, q⟩ := h
  cases r
  refine getmeth_ok I1 ea c hm hl ?_
  have q' : RK X [⟨some kw, e, kpos⟩] σ H1 fun ys H2 => (∃ y, ys = [y]) ∧ sp (V.ref a :: ys) H2 Q E0 := rk_of (pk_cons (re e) pk_nil) (re_mono q fun y H2 h => ⟨⟨y, rfl⟩, h⟩)
  refine PySem.W.callWith_KW0 I1.ok.mod.kin hm.kp hall (thn (q' pos pins s1 I1) fun ws s2 h => ?_) hpl
  obtain ⟨zs, H2, I2, rz, ⟨z, rfl⟩, q⟩ := h
  refine ⟨I2.kIn, ?_⟩
  rw [hks]
  exact run_fnk F hr KB pass0 I2 (.cons (rr a) .nil) rz q
/-- x, y = a, b and x, y, z = a, b, c, stored one by one -/
theorem s_par {x y : Str} {a b : Expr} {px py pz pt pos pt2 : Pos} {kt k2 : Nat} {nx bk ct : St → Hp → Prop} {rt' : VK} (hc : X.calm = true) (hN : X.N.Nodup) (hi : X.N.contains x = true) (hj : X.N.contains y = true) (hxy : x ≠ y) (hx : X.env.scope.names.lookup x = some .local) (hy : X.env.scope.names.lookup y = some .local)
    (hw : swappedStores [.Tuple [.Name x px, .Name y py] kt pt] (.Tuple [a, b] k2 pt2) X.env = pure (some [x, y])) (hs : swapsWithSole [.Tuple [.Name x px, .Name y py] kt pt] (.Tuple [a, b] k2 pt2) pos.line X.env = pure false)
    (q : RA X [a, b] σ H fun vs H1 => ∃ v w, vs = [v, w] ∧ nx (setN X.N (setN X.N σ x v) y w) H1) : RS X (.Assign [.Tuple [.Name x px, .Name y py] kt pt] (.Tuple [a, b] k2 pt2) pos) ⟨nx, rt', bk, ct⟩ σ H := by
  obtain ⟨i, h1⟩ := idx_of hi
  obtain ⟨j, h2⟩ := idx_of hj
  refine rs_of (ps_par hc hN h1 h2 (fun e => hxy (by rw [e] at h1; exact Option.some.inj (h1.symm.trans h2))) hx hy (ra _) hw hs) ?_
  have e1 : (fun vs H1 => ∃ v w, vs = [v, w] ∧ nx (setN X.N (setN X.N σ x v) y w) H1) = fun vs H1 => ∃ v w, vs = [v, w] ∧ nx ((σ.set i (some v)).set j (some w)) H1 := by
    funext vs H1
    simp only [setN_eq h1 hN, setN_eq h2 hN]
  rw [e1] at q
  exact q
theorem s_par3 {x y z : Str} {a b c : Expr} {px py pz pt pos pt2 : Pos} {kt k2 : Nat} {nx bk ct : St → Hp → Prop} {rt' : VK} (hc : X.calm = true) (hN : X.N.Nodup) (hi : X.N.contains x = true) (hj : X.N.contains y = true) (hl : X.N.contains z = true) (hxy : x ≠ y) (hxz : x ≠ z) (hyz : y ≠ z) (hx : X.env.scope.names.lookup x = some .local) (hy : X.env.scope.names.lookup y = some .local) (hz : X.env.scope.names.lookup z = some .local)
    (hw : swappedStores [.Tuple [.Name x px, .Name y py, .Name z pz] kt pt] (.Tuple [a, b, c] k2 pt2) X.env = pure (some [x, y, z])) (hs : swapsWithSole [.Tuple [.Name x px, .Name y py, .Name z pz] kt pt] (.Tuple [a, b, c] k2 pt2) pos.line X.env = pure false)
    (q : RA X [a, b, c] σ H fun vs H1 => ∃ u v w, vs = [u, v, w] ∧ nx (setN X.N (setN X.N (setN X.N σ x u) y v) z w) H1) : RS X (.Assign [.Tuple [.Name x px, .Name y py, .Name z pz] kt pt] (.Tuple [a, b, c] k2 pt2) pos) ⟨nx, rt', bk, ct⟩ σ H := by
  obtain ⟨i, h1⟩ := idx_of hi
  obtain ⟨j, h2⟩ := idx_of hj
  obtain ⟨l, h3⟩ := idx_of hl
  refine rs_of (ps_par3 hc hN h1 h2 h3 (fun e => hxy (by rw [e] at h1; exact Option.some.inj (h1.symm.trans h2))) (fun e => hxz (by rw [e] at h1; exact Option.some.inj (h1.symm.trans h3))) (fun e => hyz (by rw [e] at h2; exact Option.some.inj (h2.symm.trans h3))) hx hy hz (ra _) hw hs) ?_
  have e1 : (fun vs H1 => ∃ u v w, vs = [u, v, w] ∧ nx (setN X.N (setN X.N (setN X.N σ x u) y v) z w) H1) = fun vs H1 => ∃ u v w, vs = [u, v, w] ∧ nx (((σ.set i (some u)).set j (some v)).set l (some w)) H1 := by
    funext vs H1
    simp only [setN_eq h1 hN, setN_eq h2 hN, setN_eq h3 hN]
  rw [e1] at q
  exact q
end
end Sx

end
section -- Dv
set_option maxRecDepth 100000
set_option maxHeartbeats 4000000
/-! Values without addresses: what stands behind a value of the layer, as long as nobody changes it. -/
namespace Dx
open PySem PySem.Spec L2 Sx
open PyProof.Rows hiding St

inductive D where
  | non | bl (b : Bool) | int (i : Int) | str (x : Str)
  | tup (xs : List D) | lst (xs : List D) | scr (xs : List D) | set (xs : List Int)
  | dct (kvs : List (Key × D))
  | ins (c : Str) (fs : List (Str × D))
  /-- a list that nobody else holds; one that is lent -/
  | own (xs : List D) | bor (xs : List D)
  /-- a class, a function -/
  | ty (n : String) | at_ (a : Addr)

abbrev Rows := List D
/-- a list becomes one that stays -/
@[reducible] def D.fz : D → D
  | .own xs => .lst xs
  | d => d

mutual
inductive Rep (K : PySem.W.Frag) (w : World) (cl : Str → Option Addr) (O : Addr → Prop) (H : Hp) : V → D → Prop where
  | non : Rep K w cl O H .non .non
  | bl (b : Bool) : Rep K w cl O H (.bl b) (.bl b)
  | int (i : Int) : Rep K w cl O H (.int i) (.int i)
  | str (x : Str) : Rep K w cl O H (.str x) (.str x)
  | ty (n : String) : Rep K w cl O H (.ty n) (.ty n)
  | at_ (a : Addr) : Rep K w cl O H (.ref a) (.at_ a)
  | tup {a : Addr} {xs : List V} {ds : List D} (h : Rd H a (.tup xs)) (n : ¬ O a) (r : RepL K w cl O H xs ds) : Rep K w cl O H (.ref a) (.tup ds)
  | tupK {a : Addr} {xs : List V} {ds : List D} (h : ∀ H : Hp, SqT K H a xs) (r : RepL K w cl O H xs ds) : Rep K w cl O H (.ref a) (.tup ds)
  | lst {a : Addr} {xs : List V} {ds : List D} (h : H a = some (.lst xs)) (n : ¬ O a) (r : RepL K w cl O H xs ds) : Rep K w cl O H (.ref a) (.lst ds)
  | scr {a : Addr} {xs : List V} {ds : List D} (h : Rd H a (.lst xs)) (n : ¬ O a) (r : RepL K w cl O H xs ds) : Rep K w cl O H (.ref a) (.scr ds)
  | scrK {a : Addr} {xs : List V} {ds : List D} (h : ∀ H : Hp, SqL K H a xs) (r : RepL K w cl O H xs ds) : Rep K w cl O H (.ref a) (.scr ds)
  | set {a : Addr} {ns : List Int} {ks : List Int} (h : H a = some (SetO w a (fun j => decide (j ∈ ns)) ks.length)) (nd : ks.Nodup) (m : ∀ k, k ∈ ks ↔ k ∈ ns) (n : ¬ O a) : Rep K w cl O H (.ref a) (.set ns)
  | dct {a : Addr} {kvs : List (Key × V)} {ds : List (Key × D)} (h : Rd H a (.dK kvs)) (n : ¬ O a) (k : kvs.map (·.1) = ds.map (·.1)) (r : RepL K w cl O H (kvs.map (·.2)) (ds.map (·.2))) : Rep K w cl O H (.ref a) (.dct ds)
  | ins {a C dx : Addr} {c : Str} {fs : List (Str × V)} {ds : List (Str × D)} (hc : cl c = some C) (h : H a = some (.ins C dx fs)) (n : ¬ O a) (k : fs.map (·.1) = ds.map (·.1)) (r : RepL K w cl O H (fs.map (·.2)) (ds.map (·.2))) : Rep K w cl O H (.ref a) (.ins c ds)
inductive RepL (K : PySem.W.Frag) (w : World) (cl : Str → Option Addr) (O : Addr → Prop) (H : Hp) : List V → List D → Prop where
  | nil : RepL K w cl O H [] []
  | cons {v : V} {d : D} {vs : List V} {ds : List D} (r : Rep K w cl O H v d) (t : RepL K w cl O H vs ds) : RepL K w cl O H (v :: vs) (d :: ds)
end

section
variable {K : PySem.W.Frag} {w : World} {cl : Str → Option Addr} {O O' : Addr → Prop} {H H' : Hp}
/-- from one state to a later one, for what stays -/
structure Kp (O : Addr → Prop) (H : Hp) (O' : Addr → Prop) (H' : Hp) : Prop where
  keep : ∀ b o, H b = some o → ¬ O b → H' b = some o
  none : ∀ b o, H b = some o → ¬ O b → ¬ O' b
theorem Kp.rd (k : Kp O H O' H') {a : Addr} {u : HO} (h : Rd H a u) (n : ¬ O a) : Rd H' a u ∧ ¬ O' a := by
  rcases h with h | ⟨o, h⟩
  · exact ⟨.inl (k.keep _ _ h n), k.none _ _ h n⟩
  · exact ⟨.inr ⟨o, k.keep _ _ h n⟩, k.none _ _ h n⟩
theorem Kp.refl : Kp O H O H := ⟨fun _ _ h _ => h, fun _ _ _ n => n⟩
theorem Kp.trans {O2 : Addr → Prop} {H2 : Hp} (a : Kp O H O' H') (b : Kp O' H' O2 H2) : Kp O H O2 H2 :=
  ⟨fun c o h n => b.keep c o (a.keep c o h n) (a.none c o h n), fun c o h n => b.none c o (a.keep c o h n) (a.none c o h n)⟩
theorem Kp.weak (h : ∀ b, O' b → O b) : Kp O H O' H := ⟨fun _ _ h _ => h, fun b _ _ n q => n (h b q)⟩
theorem Kp.new (h : ∀ b o, H b = some o → H' b = some o) : Kp O H O H' := ⟨fun b o e _ => h b o e, fun _ _ _ n => n⟩
mutual
theorem Rep.step (k : Kp O H O' H') : ∀ {v : V} {d : D}, Rep K w cl O H v d → Rep K w cl O' H' v d
  | _, _, .non => .non
  | _, _, .bl b => .bl b
  | _, _, .int i => .int i
  | _, _, .str x => .str x
  | _, _, .ty x => .ty x
  | _, _, .at_ x => .at_ x
  | _, _, .tup h n r => .tup (k.rd h n).1 (k.rd h n).2 (RepL.step k r)
  | _, _, .tupK h r => .tupK h (RepL.step k r)
  | _, _, .lst h n r => .lst (k.keep _ _ h n) (k.none _ _ h n) (RepL.step k r)
  | _, _, .scr h n r => .scr (k.rd h n).1 (k.rd h n).2 (RepL.step k r)
  | _, _, .scrK h r => .scrK h (RepL.step k r)
  | _, _, .set h nd m n => .set (k.keep _ _ h n) nd m (k.none _ _ h n)
  | _, _, .dct h n e r => .dct (k.rd h n).1 (k.rd h n).2 e (RepL.step k r)
  | _, _, .ins hc h n e r => .ins hc (k.keep _ _ h n) (k.none _ _ h n) e (RepL.step k r)
theorem RepL.step (k : Kp O H O' H') : ∀ {vs : List V} {ds : List D}, RepL K w cl O H vs ds → RepL K w cl O' H' vs ds
  | _, _, .nil => .nil
  | _, _, .cons r t => .cons (Rep.step k r) (RepL.step k t)
end
theorem RepL.len : ∀ {vs : List V} {ds : List D}, RepL K w cl O H vs ds → vs.length = ds.length
  | _, _, .nil => rfl
  | _, _, .cons _ t => by simp [RepL.len t]
theorem RepL.app : ∀ {vs us : List V} {ds es : List D}, RepL K w cl O H vs ds → RepL K w cl O H us es → RepL K w cl O H (vs ++ us) (ds ++ es)
  | _, _, _, _, .nil, q => q
  | _, _, _, _, .cons r t, q => .cons r (RepL.app t q)
theorem RepL.get : ∀ {vs : List V} {ds : List D} {i : Nat} {d : D}, RepL K w cl O H vs ds → ds[i]? = some d → ∃ v, vs[i]? = some v ∧ Rep K w cl O H v d
  | _, _, _, _, .nil, e => by simp at e
  | _, _, 0, _, .cons r _, e => by simp at e; subst e; exact ⟨_, rfl, r⟩
  | _, _, i + 1, _, .cons _ t, e => by
    obtain ⟨v, h1, h2⟩ := RepL.get t (i := i) (by simpa using e)
    exact ⟨v, by simpa using h1, h2⟩
theorem RepL.getV : ∀ {vs : List V} {ds : List D} {i : Nat} {v : V}, RepL K w cl O H vs ds → vs[i]? = some v → ∃ d, ds[i]? = some d ∧ Rep K w cl O H v d
  | _, _, _, _, .nil, e => by simp at e
  | _, _, 0, _, .cons r _, e => by simp at e; subst e; exact ⟨_, rfl, r⟩
  | _, _, i + 1, _, .cons _ t, e => by
    obtain ⟨v, h1, h2⟩ := RepL.getV t (i := i) (by simpa using e)
    exact ⟨v, by simpa using h1, h2⟩
theorem RepL.set : ∀ {vs : List V} {ds : List D} (i : Nat) {v : V} {d : D}, RepL K w cl O H vs ds → Rep K w cl O H v d → RepL K w cl O H (vs.set i v) (ds.set i d)
  | _, _, _, _, _, .nil, _ => .nil
  | _, _, 0, _, _, .cons _ t, q => .cons q t
  | _, _, i + 1, _, _, .cons r t, q => .cons r (RepL.set i t q)
theorem RepL.take : ∀ {vs : List V} {ds : List D} (i : Nat), RepL K w cl O H vs ds → RepL K w cl O H (vs.take i) (ds.take i)
  | _, _, 0, _ => .nil
  | _, _, i + 1, .nil => .nil
  | _, _, i + 1, .cons r t => .cons r (RepL.take i t)
theorem RepL.drop : ∀ {vs : List V} {ds : List D} (i : Nat), RepL K w cl O H vs ds → RepL K w cl O H (vs.drop i) (ds.drop i)
  | _, _, 0, r => r
  | _, _, i + 1, .nil => .nil
  | _, _, i + 1, .cons r t => RepL.drop i t
theorem RepL.rev : ∀ {vs : List V} {ds : List D}, RepL K w cl O H vs ds → RepL K w cl O H vs.reverse ds.reverse
  | _, _, .nil => .nil
  | _, _, .cons r t => by rw [List.reverse_cons, List.reverse_cons]; exact RepL.app (RepL.rev t) (.cons r .nil)
theorem RepL.ints : ∀ {vs : List V} {ns : List Int}, RepL K w cl O H vs (ns.map D.int) → vs = ns.map V.int
  | _, [], .nil => rfl
  | _, n :: ns, .cons r t => by
    cases r
    rw [RepL.ints t]
    rfl
theorem RepL.ofInts : ∀ (ns : List Int), RepL K w cl O H (ns.map V.int) (ns.map D.int)
  | [] => .nil
  | n :: ns => .cons (.int n) (RepL.ofInts ns)
theorem Rep.sqT {a : Addr} {ds : List D} (r : Rep K w cl O H (.ref a) (.tup ds)) : ∃ xs, SqT K H a xs ∧ RepL K w cl O H xs ds := by
  cases r with
  | tup h n r => exact ⟨_, .inl h, r⟩
  | tupK h r => exact ⟨_, h H, r⟩
theorem Rep.tupRef {v : V} {ds : List D} (r : Rep K w cl O H v (.tup ds)) : ∃ a xs, v = .ref a ∧ SqT K H a xs ∧ RepL K w cl O H xs ds := by
  cases r with
  | tup h n r => exact ⟨_, _, rfl, .inl h, r⟩
  | tupK h r => exact ⟨_, _, rfl, h H, r⟩
theorem Rep.lstRef {v : V} {ds : List D} (r : Rep K w cl O H v (.lst ds)) : ∃ a xs, v = .ref a ∧ SqL K H a xs ∧ RepL K w cl O H xs ds := by
  cases r with
  | lst h n r => exact ⟨_, _, rfl, .inl (.inl h), r⟩
theorem Rep.scrRef {v : V} {ds : List D} (r : Rep K w cl O H v (.scr ds)) : ∃ a xs, v = .ref a ∧ SqL K H a xs ∧ RepL K w cl O H xs ds := by
  cases r with
  | scr h n r => exact ⟨_, _, rfl, .inl h, r⟩
  | scrK h r => exact ⟨_, _, rfl, h H, r⟩
theorem Rep.intV {v : V} {i : Int} (r : Rep K w cl O H v (.int i)) : v = .int i := by cases r; rfl
theorem Rep.blV {v : V} {i : Bool} (r : Rep K w cl O H v (.bl i)) : v = .bl i := by cases r; rfl
theorem Rep.strV {v : V} {i : Str} (r : Rep K w cl O H v (.str i)) : v = .str i := by cases r; rfl
theorem Rep.nonV {v : V} (r : Rep K w cl O H v .non) : v = .non := by cases r; rfl
theorem Rep.tyV {v : V} {i : String} (r : Rep K w cl O H v (.ty i)) : v = .ty i := by cases r; rfl
theorem Rep.atV {v : V} {i : Addr} (r : Rep K w cl O H v (.at_ i)) : v = .ref i := by cases r; rfl
theorem Rep.noOwn {v : V} {xs : List D} (r : Rep K w cl O H v (.own xs)) : False := by cases r
theorem Rep.noBor {v : V} {xs : List D} (r : Rep K w cl O H v (.bor xs)) : False := by cases r
end
end Dx

end
section -- Dk
set_option maxRecDepth 100000
set_option maxHeartbeats 4000000
/-! Where one stands: the slots by what they are worth; expressions. -/
namespace Dx
open PySem PySem.Spec L2 Sx
open PyProof.Rows hiding St

abbrev En := List (Option D)
/-- a thing that may change -/
def chg : HO → Bool
  | .lst _ => true
  | .dK _ => true
  | .dT _ => true
  | .ins _ _ _ => true
  | _ => false
abbrev Ch (H : Hp) (b : Addr) : Prop := ∃ o, H b = some o ∧ chg o = true
structure HF where
  P : (Addr → Prop) → Hp → Prop
  st : ∀ O H O' H', P O H → Kp O H O' H' → P O' H'
structure Fx where
  K : PySem.W.Frag
  w : World
  cl : Str → Option Addr
  H0 : Hp
  B : Addr → Prop
  Out : Addr → Prop
  held : List HF
def Fx.out (F : Fx) (a : Addr) : Fx := { F with Out := fun b => F.Out b ∨ b = a }
def Fx.also (F : Fx) (hs : List HF) : Fx := { F with held := hs ++ F.held }
abbrev Fx.R (F : Fx) := Rep F.K F.w F.cl
abbrev Fx.L (F : Fx) := RepL F.K F.w F.cl
/-- the slot holds a list that may change -/
def IsM (ρ : En) (i : Nat) : Prop := ∃ ds, ρ[i]? = some (some (.own ds)) ∨ ρ[i]? = some (some (.bor ds))
def Mut (σ : St) (ρ : En) (b : Addr) : Prop := ∃ i, IsM ρ i ∧ σ[i]? = some (some (.ref b))
def Av (F : Fx) (σ : St) (ρ : En) (b : Addr) : Prop := F.Out b ∨ Mut σ ρ b
inductive Slot (F : Fx) (O : Addr → Prop) (H : Hp) : V → D → Prop where
  | own {a : Addr} {vs : List V} {ds : List D} (h : H a = some (.lst vs)) (n : F.H0 a = none) (o : ¬ F.Out a) (r : F.L O H vs ds) : Slot F O H (.ref a) (.own ds)
  | bor {a : Addr} {vs : List V} {ds : List D} (h : H a = some (.lst vs)) (b : F.B a) (r : F.L O H vs ds) : Slot F O H (.ref a) (.bor ds)
  | rep {v : V} {d : D} (r : F.R O H v d) : Slot F O H v d
structure Ok (F : Fx) (H : Hp) (σ : St) (ρ : En) : Prop where
  len : ρ.length = σ.length
  slot : ∀ (i : Nat) (d : D), ρ[i]? = some (some d) → ∃ v, σ[i]? = some (some v) ∧ Slot F (Av F σ ρ) H v d
  dist : ∀ (i j : Nat) (b : Addr), i ≠ j → IsM ρ i → IsM ρ j → σ[i]? = some (some (.ref b)) → σ[j]? = some (some (.ref b)) → False
  keep : ∀ b o, F.H0 b = some o → ¬ F.B b → H b = some o
  out : ∀ b, F.Out b → Ch H b
  bo : ∀ b, F.B b → F.Out b
  held : ∀ p ∈ F.held, p.P (Av F σ ρ) H
section
variable {F : Fx} {H H' : Hp} {σ : St} {ρ ρ' : En} {v : V} {d : D} {a p : Addr} {i : Nat}
theorem Slot.ref {O : Addr → Prop} {x : D} (h : Slot F O H v x) (m : (∃ ds, x = .own ds) ∨ ∃ ds, x = .bor ds) : ∃ a vs, v = .ref a ∧ H a = some (.lst vs) := by
  cases h with
  | own h n o r => exact ⟨_, _, rfl, h⟩
  | bor h n r => exact ⟨_, _, rfl, h⟩
  | rep r =>
    rcases m with ⟨ds, rfl⟩ | ⟨ds, rfl⟩
    · exact r.noOwn.elim
    · exact r.noBor.elim
theorem Slot.step {O O' : Addr → Prop} {x : D} (h : Slot F O H v x) (k : Kp O H O' H') (m : ∀ a vs, v = .ref a → ((∃ ds, x = .own ds) ∨ ∃ ds, x = .bor ds) → H a = some (.lst vs) → H' a = some (.lst vs)) : Slot F O' H' v x := by
  cases h with
  | own h n o r => exact .own (m _ _ rfl (.inl ⟨_, rfl⟩) h) n o (r.step k)
  | bor h n r => exact .bor (m _ _ rfl (.inr ⟨_, rfl⟩) h) n (r.step k)
  | rep r => exact .rep (r.step k)
theorem Slot.fx {F' : Fx} {O : Addr → Prop} {x : D} (h : Slot F O H v x) (eK : F'.K = F.K) (ew : F'.w = F.w) (ec : F'.cl = F.cl) (e0 : F'.H0 = F.H0) (eB : F'.B = F.B) (eO : ∀ b, H b ≠ none → F'.Out b → F.Out b) : Slot F' O H v x := by
  cases h with
  | own h n o r => exact .own h (by rw [e0]; exact n) (fun q => o (eO _ (by rw [h]; simp) q)) (by unfold Fx.L; rw [eK, ew, ec]; exact r)
  | bor h n r => exact .bor h (by rw [eB]; exact n) (by unfold Fx.L; rw [eK, ew, ec]; exact r)
  | rep r => exact .rep (by unfold Fx.R; rw [eK, ew, ec]; exact r)
/-- what may change stands in the heap -/
theorem Ok.mut (ok : Ok F H σ ρ) {b : Addr} (m : Mut σ ρ b) : ∃ vs, H b = some (.lst vs) := by
  obtain ⟨i, ⟨ds, hd⟩, hi⟩ := m
  rcases hd with hd | hd
  · obtain ⟨v, h1, h2⟩ := ok.slot i _ hd
    rw [hi] at h1
    cases h1
    obtain ⟨a, vs, e, h⟩ := h2.ref (.inl ⟨_, rfl⟩)
    cases e
    exact ⟨_, h⟩
  · obtain ⟨v, h1, h2⟩ := ok.slot i _ hd
    rw [hi] at h1
    cases h1
    obtain ⟨a, vs, e, h⟩ := h2.ref (.inr ⟨_, rfl⟩)
    cases e
    exact ⟨_, h⟩
theorem Ok.av (ok : Ok F H σ ρ) {b : Addr} (m : Av F σ ρ b) : Ch H b := by
  rcases m with m | m
  · exact ok.out b m
  · obtain ⟨vs, h⟩ := ok.mut m
    exact ⟨_, h, rfl⟩
theorem Ok.navn (ok : Ok F H σ ρ) (h : H p = none) : ¬ Av F σ ρ p := fun m => by
  obtain ⟨o, e, _⟩ := ok.av m
  rw [h] at e
  cases e
theorem Ok.n0 (ok : Ok F H σ ρ) (h : H p = none) : F.H0 p = none := by
  cases e : F.H0 p with
  | none => rfl
  | some o =>
    by_cases hb : F.B p
    · obtain ⟨o', e', _⟩ := ok.out p (ok.bo p hb)
      rw [h] at e'
      cases e'
    · have := ok.keep p o e hb
      rw [h] at this
      cases this
/-- from one heap to the next, with what may change unchanged -/
theorem Ok.grow (ok : Ok F H σ ρ) (g : ∀ b o, H b = some o → H' b = some o) : Ok F H' σ ρ where
  len := ok.len
  slot := fun i d h => by
    obtain ⟨v, h1, h2⟩ := ok.slot i d h
    exact ⟨v, h1, h2.step (.new g) fun a vs _ _ e => g _ _ e⟩
  dist := ok.dist
  keep := fun b o h n => g _ _ (ok.keep b o h n)
  out := fun b h => let ⟨o, e, c⟩ := ok.out b h; ⟨o, g _ _ e, c⟩
  bo := ok.bo
  held := fun p hp => p.st _ _ _ _ (ok.held p hp) (.new g)
theorem grow_upd {o : HO} (h : H p = none) : ∀ b u, H b = some u → upd H p o b = some u := fun b u e => by
  rw [upd_ne (ne_of_none e h)]
  exact e
theorem Ok.new {o : HO} (ok : Ok F H σ ρ) (h : H p = none) : Ok F (upd H p o) σ ρ := ok.grow (grow_upd h)
theorem Kp.mut (k : Kp (Mut σ ρ) H (Mut σ ρ') H') : Kp (Av F σ ρ) H (Av F σ ρ') H' :=
  ⟨fun b o h n => k.keep b o h fun m => n (.inr m), fun b o h n q => by
    rcases q with q | q
    · exact n (.inl q)
    · exact k.none b o h (fun m => n (.inr m)) q⟩
/-- the same frame, but for what is not to be met and what is held -/
structure Like (F' F : Fx) : Prop where
  K : F'.K = F.K
  w : F'.w = F.w
  cl : F'.cl = F.cl
  H0 : F'.H0 = F.H0
  B : F'.B = F.B
theorem Like.out : Like (F.out p) F := ⟨rfl, rfl, rfl, rfl, rfl⟩
theorem Like.out' : Like F (F.out p) := ⟨rfl, rfl, rfl, rfl, rfl⟩
theorem Like.also {hs : List HF} : Like (F.also hs) F := ⟨rfl, rfl, rfl, rfl, rfl⟩
theorem Like.also' {hs : List HF} : Like F (F.also hs) := ⟨rfl, rfl, rfl, rfl, rfl⟩
theorem Like.R {F' F : Fx} (L : Like F' F) {O : Addr → Prop} {x : D} (r : F.R O H v x) : F'.R O H v x := by unfold Fx.R; rw [L.K, L.w, L.cl]; exact r
theorem Like.L {F' F : Fx} (L : Like F' F) {O : Addr → Prop} {vs : List V} {x : List D} (r : F.L O H vs x) : F'.L O H vs x := by unfold Fx.L; rw [L.K, L.w, L.cl]; exact r
theorem Ok.move {F' : Fx} (ok : Ok F H σ ρ) (L : Like F' F) (g : ∀ b o, H b = some o → H' b = some o) (h1 : ∀ b o, H b = some o → F'.Out b → F.Out b) (h2 : ∀ b, F'.Out b → Ch H' b) (h3 : ∀ b, F.B b → F'.Out b)
    (h4 : ∀ p ∈ F'.held, p.P (Av F σ ρ) H) : Ok F' H' σ ρ := by
  have kp : Kp (Av F σ ρ) H (Av F' σ ρ) H' := ⟨fun b o e _ => g b o e, fun b o e n q => by
    rcases q with q | q
    · exact n (.inl (h1 b o e q))
    · exact n (.inr q)⟩
  exact {
    len := ok.len
    slot := fun i d hx => by
      obtain ⟨v, e1, e2⟩ := ok.slot i d hx
      refine ⟨v, e1, ?_⟩
      cases e2 with
      | own h n o r => exact .own (g _ _ h) (by rw [L.H0]; exact n) (fun q => o (h1 _ _ h q)) (L.L (r.step kp))
      | bor h b r => exact .bor (g _ _ h) (by rw [L.B]; exact b) (L.L (r.step kp))
      | rep r => exact .rep (L.R (r.step kp))
    dist := ok.dist
    keep := fun b o h n => g _ _ (ok.keep b o (by rw [← L.H0]; exact h) (by rw [← L.B]; exact n))
    out := h2
    bo := fun b h => h3 b (by rw [← L.B]; exact h)
    held := fun p hp => p.st _ _ _ _ (h4 p hp) kp }
/-- one more address that is not to be met -/
theorem Ok.addOut {o : HO} (ok : Ok F H σ ρ) (h : H p = none) (hc : chg o = true := by rfl) : Ok (F.out p) (upd H p o) σ ρ :=
  ok.move .out (grow_upd h) (fun b u e q => by
    rcases q with q | q
    · exact q
    · subst q; rw [h] at e; cases e) (fun b q => by
    rcases q with q | q
    · obtain ⟨u, e, c⟩ := ok.out b q; exact ⟨u, grow_upd h _ _ e, c⟩
    · subst q; exact ⟨_, upd_same, hc⟩) (fun b q => .inl (ok.bo b q)) (fun q hq => ok.held q hq)
theorem Ok.delOut (ok : Ok (F.out p) H σ ρ) (hp : ¬ F.B p) : Ok F H σ ρ :=
  ok.move .out' (fun _ _ e => e) (fun b u e q => .inl q) (fun b q => ok.out b (.inl q)) (fun b q => by
    rcases ok.bo b q with h | h
    · exact h
    · subst h; exact (hp q).elim) (fun q hq => ok.held q hq)
theorem Ok.addHold {hs : List HF} (ok : Ok F H σ ρ) (r : ∀ p ∈ hs, p.P (Av F σ ρ) H) : Ok (F.also hs) H σ ρ :=
  ok.move .also (fun _ _ e => e) (fun b u e q => q) ok.out ok.bo (fun q hq => by
    rcases List.mem_append.mp hq with hq | hq
    · exact r q hq
    · exact ok.held q hq)
theorem Ok.delHold {hs : List HF} (ok : Ok (F.also hs) H σ ρ) : Ok F H σ ρ :=
  ok.move .also' (fun _ _ e => e) (fun b u e q => q) ok.out ok.bo (fun q hq => ok.held q (List.mem_append_right _ hq))
theorem Res.none : True := trivial
/-- other slots: what holds of the new ones -/
theorem Ok.slots {σ' : St} (ok : Ok F H σ ρ) (hm : ∀ b, Mut σ' ρ' b → Mut σ ρ b) (len : ρ'.length = σ'.length)
    (slot : ∀ (i : Nat) (d : D), ρ'[i]? = some (some d) → ∃ v, σ'[i]? = some (some v) ∧ Slot F (Av F σ ρ) H v d)
    (dist : ∀ (i j : Nat) (b : Addr), i ≠ j → IsM ρ' i → IsM ρ' j → σ'[i]? = some (some (.ref b)) → σ'[j]? = some (some (.ref b)) → False) : Ok F H σ' ρ' := by
  have kp : Kp (Av F σ ρ) H (Av F σ' ρ') H := .weak fun b q => by
    rcases q with q | q
    · exact .inl q
    · exact .inr (hm b q)
  exact {
    len := len
    slot := fun i d h => by
      obtain ⟨v, e1, e2⟩ := slot i d h
      exact ⟨v, e1, e2.step kp fun _ _ _ _ e => e⟩
    dist := dist
    keep := ok.keep
    out := ok.out
    bo := ok.bo
    held := fun p hp => p.st _ _ _ _ (ok.held p hp) kp }
theorem isM_set {d : Option D} {j : Nat} (h : IsM (ρ.set i d) j) : (j = i ∧ ∃ ds, d = some (.own ds) ∨ d = some (.bor ds)) ∨ (j ≠ i ∧ IsM ρ j) := by
  obtain ⟨ds, h⟩ := h
  by_cases e : i = j
  · subst e
    left
    refine ⟨rfl, ds, ?_⟩
    rw [List.getElem?_set] at h
    simp at h
    rcases h with h | h
    · exact .inl h.2
    · exact .inr h.2
  · right
    refine ⟨fun q => e q.symm, ds, ?_⟩
    rw [List.getElem?_set_ne e] at h
    exact h
/-- a value that stays is stored -/
theorem Ok.set (ok : Ok F H σ ρ) (r : F.R (Av F σ ρ) H v d) : Ok F H (σ.set i (some v)) (ρ.set i (some d)) := by
  have nm : ∀ ds, ¬ (some d = some (D.own ds) ∨ some d = some (D.bor ds)) := by
    intro ds h
    rcases h with h | h
    · cases h; exact r.noOwn
    · cases h; exact r.noBor
  refine ok.slots (fun b ⟨j, m, e⟩ => ?_) (by rw [List.length_set, List.length_set]; exact ok.len) (fun j x h => ?_) (fun j k b n m1 m2 e1 e2 => ?_)
  · rcases isM_set m with ⟨_, ds, q⟩ | ⟨n, m⟩
    · exact (nm ds q).elim
    · rw [List.getElem?_set_ne (fun q => n q.symm)] at e
      exact ⟨j, m, e⟩
  · by_cases e : i = j
    · subst e
      rw [List.getElem?_set] at h ⊢
      simp at h ⊢
      obtain ⟨hl, rfl⟩ := h
      rw [ok.len] at hl
      exact ⟨v, ⟨hl, rfl⟩, .rep r⟩
    · rw [List.getElem?_set_ne e] at h ⊢
      exact ok.slot j x h
  · rcases isM_set m1 with ⟨_, ds, q⟩ | ⟨n1, m1⟩
    · exact nm ds q
    rcases isM_set m2 with ⟨_, ds, q⟩ | ⟨n2, m2⟩
    · exact nm ds q
    rw [List.getElem?_set_ne (fun q => n1 q.symm)] at e1
    rw [List.getElem?_set_ne (fun q => n2 q.symm)] at e2
    exact ok.dist j k b n m1 m2 e1 e2
/-- a slot is forgotten -/
theorem Ok.drop (ok : Ok F H σ ρ) : Ok F H σ (ρ.set i none) := by
  have nm : ∀ ds, ¬ ((none : Option D) = some (D.own ds) ∨ (none : Option D) = some (D.bor ds)) := fun ds h => by rcases h with h | h <;> cases h
  refine ok.slots (fun b ⟨j, m, e⟩ => ?_) (by rw [List.length_set]; exact ok.len) (fun j x h => ?_) (fun j k b n m1 m2 e1 e2 => ?_)
  · rcases isM_set m with ⟨_, ds, q⟩ | ⟨n, m⟩
    · exact (nm ds q).elim
    · exact ⟨j, m, e⟩
  · by_cases e : i = j
    · subst e
      rw [List.getElem?_set] at h
      simp at h
    · rw [List.getElem?_set_ne e] at h
      exact ok.slot j x h
  · rcases isM_set m1 with ⟨_, ds, q⟩ | ⟨n1, m1⟩
    · exact nm ds q
    rcases isM_set m2 with ⟨_, ds, q⟩ | ⟨n2, m2⟩
    · exact nm ds q
    exact ok.dist j k b n m1 m2 e1 e2
/-- a new list is stored -/
theorem Ok.setOwn {vs : List V} {ds : List D} (ok : Ok (F.out a) H σ ρ) (ha : H a = some (.lst vs)) (h0 : F.H0 a = none) (no : ¬ F.Out a) (nb : ¬ F.B a) (nm : ¬ Mut σ ρ a) (r : F.L (Av (F.out a) σ ρ) H vs ds) : Ok F H (σ.set i (some (.ref a))) (ρ.set i (some (.own ds))) := by
  have hi : ∀ {j : Nat} {b : Addr}, IsM (ρ.set i (some (.own ds))) j → (σ.set i (some (V.ref a)))[j]? = some (some (.ref b)) → (j = i ∧ b = a) ∨ (j ≠ i ∧ IsM ρ j ∧ σ[j]? = some (some (.ref b))) := by
    intro j b m e
    rcases isM_set m with ⟨rfl, _, _⟩ | ⟨n, m⟩
    · left
      rw [List.getElem?_set] at e
      simp at e
      exact ⟨rfl, e.2.symm⟩
    · right
      rw [List.getElem?_set_ne (fun q => n q.symm)] at e
      exact ⟨n, m, e⟩
  have hm : ∀ b, Av F (σ.set i (some (.ref a))) (ρ.set i (some (.own ds))) b → Av (F.out a) σ ρ b := by
    intro b q
    rcases q with q | ⟨j, m, e⟩
    · exact .inl (.inl q)
    · rcases hi m e with ⟨_, rfl⟩ | ⟨_, m, e⟩
      · exact .inl (.inr rfl)
      · exact .inr ⟨j, m, e⟩
  have kp : Kp (Av (F.out a) σ ρ) H (Av F (σ.set i (some (.ref a))) (ρ.set i (some (.own ds)))) H := .weak hm
  exact {
    len := by rw [List.length_set, List.length_set]; exact ok.len
    slot := fun j x h => by
      by_cases e : i = j
      · subst e
        rw [List.getElem?_set] at h ⊢
        simp at h ⊢
        obtain ⟨hl, rfl⟩ := h
        rw [ok.len] at hl
        exact ⟨_, ⟨hl, rfl⟩, .own ha h0 no (r.step kp)⟩
      · rw [List.getElem?_set_ne e] at h ⊢
        obtain ⟨v, e1, e2⟩ := ok.slot j x h
        refine ⟨v, e1, ?_⟩
        have e3 := e2.step kp fun _ _ _ _ e => e
        exact e3.fx rfl rfl rfl rfl rfl fun b _ q => .inl q
    dist := fun j k b n m1 m2 e1 e2 => by
      rcases hi m1 e1 with ⟨hj, hb⟩ | ⟨n1, p1, f1⟩
      · rcases hi m2 e2 with ⟨hk, _⟩ | ⟨n2, p2, f2⟩
        · exact n (hj.trans hk.symm)
        · exact nm ⟨k, p2, hb ▸ f2⟩
      · rcases hi m2 e2 with ⟨hk, hb⟩ | ⟨n2, p2, f2⟩
        · exact nm ⟨j, p1, hb ▸ f1⟩
        · exact ok.dist j k b n p1 p2 f1 f2
    keep := ok.keep
    out := fun b q => ok.out b (.inl q)
    bo := fun b q => by
      rcases ok.bo b q with h | h
      · exact h
      · subst h
        exact (nb q).elim
    held := fun p hp => p.st _ _ _ _ (ok.held p hp) kp }
end
end Dx

end
section -- De
set_option maxRecDepth 100000
set_option maxHeartbeats 4000000
namespace Dx
open PySem PySem.Spec L2 Sx
open PyProof.Rows hiding St

/-- the frame is of this text -/
class Fit (X : Cx) (F : Fx) : Prop where
  K : F.K = X.K
  w : F.w = X.w
instance {X : Cx} {F : Fx} {p : Addr} [h : Fit X F] : Fit X (F.out p) := ⟨h.K, h.w⟩
instance {X : Cx} {F : Fx} {hs : List HF} [h : Fit X F] : Fit X (F.also hs) := ⟨h.K, h.w⟩

/-- what an expression gives -/
inductive Res (F : Fx) (H : Hp) (σ : St) : V → D → En → Prop where
  | rep {v : V} {d : D} {ρ : En} (ok : Ok F H σ ρ) (r : F.R (Av F σ ρ) H v d) : Res F H σ v d ρ
  | own {a : Addr} {vs : List V} {ds : List D} {ρ : En} (ha : H a = some (.lst vs)) (h0 : F.H0 a = none) (no : ¬ F.Out a) (nb : ¬ F.B a) (nm : ¬ Mut σ ρ a) (ok : Ok (F.out a) H σ ρ) (r : F.L (Av (F.out a) σ ρ) H vs ds) : Res F H σ (.ref a) (.own ds) ρ
abbrev DQ := D → En → Prop
def DE (X : Cx) (F : Fx) (e : Expr) (ρ : En) (Q : DQ) : Prop := ∀ σ H, Ok F H σ ρ → RE X e σ H fun v H' => ∃ d ρ', Res F H' σ v d ρ' ∧ Kp (Mut σ ρ) H (Mut σ ρ') H' ∧ Q d ρ'
def DT (X : Cx) (F : Fx) (e : Expr) (ρ : En) (Q : Bool → En → Prop) : Prop := ∀ σ H, Ok F H σ ρ → RT X e σ H fun b H' => ∃ ρ', Ok F H' σ ρ' ∧ Kp (Mut σ ρ) H (Mut σ ρ') H' ∧ Q b ρ'
def DW (X : Cx) (F : Fx) (e : Expr) (ρ : En) (Q : Bool → En → Prop) : Prop := ∀ σ H, Ok F H σ ρ → RW X e σ H fun b H' => ∃ ρ', Ok F H' σ ρ' ∧ Kp (Mut σ ρ) H (Mut σ ρ') H' ∧ Q b ρ'
/-- by values -/
def DO (X : Cx) (F : Fx) (f : Value → Value → Sem Value) (x y : D) (ρ : En) (Q : DQ) : Prop := ∀ σ H v u, Ok F H σ ρ → F.R (Av F σ ρ) H v x → F.R (Av F σ ρ) H u y → RO X f v u H fun z H' => ∃ d ρ', Res F H' σ z d ρ' ∧ Kp (Mut σ ρ) H (Mut σ ρ') H' ∧ Q d ρ'
def DU (X : Cx) (F : Fx) (f : Value → Sem Value) (x : D) (ρ : En) (Q : DQ) : Prop := ∀ σ H v, Ok F H σ ρ → F.R (Av F σ ρ) H v x → RU X f v H fun z H' => ∃ d ρ', Res F H' σ z d ρ' ∧ Kp (Mut σ ρ) H (Mut σ ρ') H' ∧ Q d ρ'
def DTru (X : Cx) (F : Fx) (x : D) (ρ : En) (Q : Bool → En → Prop) : Prop := ∀ σ H v, Ok F H σ ρ → F.R (Av F σ ρ) H v x → RTru X v H fun b H' => ∃ ρ', Ok F H' σ ρ' ∧ Kp (Mut σ ρ) H (Mut σ ρ') H' ∧ Q b ρ'
def DC (X : Cx) (F : Fx) (f : Value) (xs : List D) (ρ : En) (Q : DQ) : Prop := ∀ σ H vs, Ok F H σ ρ → F.L (Av F σ ρ) H vs xs → RC X f vs H fun z H' => ∃ d ρ', Res F H' σ z d ρ' ∧ Kp (Mut σ ρ) H (Mut σ ρ') H' ∧ Q d ρ'
def DIx (X : Cx) (F : Fx) (x y : D) (ρ : En) (Q : DQ) : Prop := ∀ σ H v u, Ok F H σ ρ → F.R (Av F σ ρ) H v x → F.R (Av F σ ρ) H u y → RIx X v u H fun z H' => ∃ d ρ', Res F H' σ z d ρ' ∧ Kp (Mut σ ρ) H (Mut σ ρ') H' ∧ Q d ρ'
/-- an argument: a value, or a slot that is lent -/
inductive Ag where
  | d (x : D) | len (i : Nat)
inductive AgsP (F : Fx) (σ : St) (ρ : En) (H : Hp) : List V → List Ag → Prop where
  | nil : AgsP F σ ρ H [] []
  | d {v : V} {x : D} {vs : List V} {as : List Ag} (r : F.R (Av F σ ρ) H v x) (t : AgsP F σ ρ H vs as) : AgsP F σ ρ H (v :: vs) (.d x :: as)
  | len {v : V} {i : Nat} {vs : List V} {as : List Ag} (e : σ[i]? = some (some v)) (t : AgsP F σ ρ H vs as) : AgsP F σ ρ H (v :: vs) (.len i :: as)
def DA (X : Cx) (F : Fx) (es : List Expr) (ρ : En) (Q : List Ag → En → Prop) : Prop := ∀ σ H, Ok F H σ ρ → RA X es σ H fun vs H' => ∃ as ρ', Ok F H' σ ρ' ∧ AgsP F σ ρ' H' vs as ∧ Kp (Mut σ ρ) H (Mut σ ρ') H' ∧ Q as ρ'

section
variable {X : Cx} {F : Fx} {e a b c o : Expr} {es : List Expr} {ρ ρ' ρ1 : En} {σ : St} {H H' : Hp} {Q : DQ} {QB : Bool → En → Prop} {pos p apos : Pos} {x : Str} {d : D} {v u : V} {i : Nat}
theorem Res.fz (h : Res F H σ v d ρ) : Ok F H σ ρ ∧ F.R (Av F σ ρ) H v d.fz := by
  cases h with
  | rep ok r =>
    refine ⟨ok, ?_⟩
    cases d with
    | own xs => exact r.noOwn.elim
    | _ => exact r
  | own ha h0 no nb nm ok r =>
    refine ⟨ok.delOut nb, .lst ha (fun q => ?_) (RepL.step (.weak fun b q => ?_) r)⟩
    · rcases q with q | q
      · exact no q
      · exact nm q
    · rcases q with q | q
      · exact .inl (.inl q)
      · exact .inr q
theorem Res.ok (h : Res F H σ v d ρ) : Ok F H σ ρ := h.fz.1
/-- mono -/
theorem ro_mono {f : Value → Value → Sem Value} {R Q : VK} (h : RO X f v u H R) (k : ∀ z H', R z H' → Q z H') : RO X f v u H Q := fun pins s σ a b I r1 r2 => thn (h pins s σ a b I r1 r2) fun _ s' ⟨z, H', I', r, q⟩ => ⟨z, H', I', r, k z H' q⟩
theorem ru_mono {f : Value → Sem Value} {R Q : VK} (h : RU X f v H R) (k : ∀ z H', R z H' → Q z H') : RU X f v H Q := fun pins s σ a I r1 => thn (h pins s σ a I r1) fun _ s' ⟨z, H', I', r, q⟩ => ⟨z, H', I', r, k z H' q⟩
theorem rtru_mono {R Q : Bool → Hp → Prop} (h : RTru X v H R) (k : ∀ z H', R z H' → Q z H') : RTru X v H Q := fun pins s σ a I r1 => thn (h pins s σ a I r1) fun z s' ⟨H', I', q⟩ => ⟨H', I', k z H' q⟩
theorem rc_mono {f : Value} {vs : List V} {R Q : VK} (h : RC X f vs H R) (k : ∀ z H', R z H' → Q z H') : RC X f vs H Q := fun pins s σ us I r => thn (h pins s σ us I r) fun _ s' ⟨z, H', I', r, q⟩ => ⟨z, H', I', r, k z H' q⟩
theorem rix_mono {R Q : VK} (h : RIx X v u H R) (k : ∀ z H', R z H' → Q z H') : RIx X v u H Q := fun va sl pins s σ a b I r1 r2 hs => thn (h va sl pins s σ a b I r1 r2 hs) fun _ s' ⟨z, H', I', r, q⟩ => ⟨z, H', I', r, k z H' q⟩
theorem ra_mono {R Q : List V → Hp → Prop} (h : RA X es σ H R) (k : ∀ z H', R z H' → Q z H') : RA X es σ H Q := fun ps pins s I => thn (h ps pins s I) fun _ s' ⟨z, H', I', r, q⟩ => ⟨z, H', I', r, k z H' q⟩
theorem rw_mono {R Q : Bool → Hp → Prop} (h : RW X e σ H R) (k : ∀ v H', R v H' → Q v H') : RW X e σ H Q := fun wh pins s I => thn (h wh pins s I) fun v s' ⟨H', I', q⟩ => ⟨H', I', k v H' q⟩
theorem DE.mono {R Q : DQ} (h : DE X F e ρ R) (k : ∀ d ρ', R d ρ' → Q d ρ') : DE X F e ρ Q := fun σ H ok => re_mono (h σ H ok) fun v H' ⟨d, ρ', r, kp, q⟩ => ⟨d, ρ', r, kp, k d ρ' q⟩
theorem DT.mono {R Q : Bool → En → Prop} (h : DT X F e ρ R) (k : ∀ d ρ', R d ρ' → Q d ρ') : DT X F e ρ Q := fun σ H ok => rt_mono (h σ H ok) fun v H' ⟨ρ', r, kp, q⟩ => ⟨ρ', r, kp, k v ρ' q⟩
theorem de_run {R : VK} (h : DE X F e ρ Q) (ok : Ok F H σ ρ) (k : ∀ v H' d ρ', Ok F H' σ ρ' → F.R (Av F σ ρ') H' v d.fz → Kp (Mut σ ρ) H (Mut σ ρ') H' → Q d ρ' → R v H') : RE X e σ H R :=
  re_mono (h σ H ok) fun v H' ⟨d, ρ', r, kp, q⟩ => k v H' d ρ' r.fz.1 r.fz.2 kp q
theorem look_en : ∀ {N : List Str} {ρ : En} {x : Str} {d : D}, (N.zip ρ).lookup x = some (some d) → ∃ i : Nat, N[i]? = some x ∧ ρ[i]? = some (some d) := by
  intro N
  induction N with
  | nil => intro ρ x d h; simp at h
  | cons n ns ih =>
    intro ρ x d h
    cases ρ with
    | nil => simp at h
    | cons o os =>
      rw [List.zip_cons_cons, List.lookup_cons] at h
      split at h
      · rename_i hh
        have e : x = n := by simpa using hh
        exact ⟨0, by rw [e]; rfl, by cases h; rfl⟩
      · obtain ⟨i, h1, h2⟩ := ih h
        exact ⟨i + 1, h1, h2⟩
def D.plain : D → Bool
  | .own _ => false
  | .bor _ => false
  | _ => true
theorem Slot.plain {O : Addr → Prop} (h : Slot F O H v d) (p : d.plain = true) : F.R O H v d := by
  cases h with
  | own => cases p
  | bor => cases p
  | rep r => exact r
/-! ### expressions -/
theorem d_int {i : Int} {j} (q : Q (.int i) ρ) : DE X F (.Constant (.int i) j pos) ρ Q := fun σ H ok => e_int ⟨_, ρ, .rep ok (.int i), .refl, q⟩
theorem d_bl {k : Bool} {j} (q : Q (.bl k) ρ) : DE X F (.Constant (.bool k) j pos) ρ Q := fun σ H ok => e_bl ⟨_, ρ, .rep ok (.bl k), .refl, q⟩
theorem d_non {j} (q : Q .non ρ) : DE X F (.Constant .none j pos) ρ Q := fun σ H ok => e_non ⟨_, ρ, .rep ok .non, .refl, q⟩
theorem d_str {y : Str} {j} (q : Q (.str y) ρ) : DE X F (.Constant (.str y) j pos) ρ Q := fun σ H ok => e_str ⟨_, ρ, .rep ok (.str y), .refl, q⟩
theorem d_name (h : (X.N.zip ρ).lookup x = some (some d)) (hp : d.plain = true) (hv : Vis X.env.scope x) (hd : (x == ("__debug__" : Str)) = false) (hcd : (x == ("__classdict__" : Str)) = false) (q : Q d ρ) : DE X F (.Name x pos) ρ Q := by
  intro σ H ok
  obtain ⟨i, h1, h2⟩ := look_en h
  obtain ⟨v, h3, h4⟩ := ok.slot i d h2
  exact re_of (pe_var h1 hv hd hcd) ⟨v, h3, d, ρ, .rep ok (h4.plain hp), .refl, q⟩
/-- a list that is kept is read: from now on it stays -/
theorem Ok.freeze {ds : List D} (ok : Ok F H σ ρ) (h : ρ[i]? = some (some (.own ds))) : ∃ a, σ[i]? = some (some (.ref a)) ∧ Ok F H σ (ρ.set i (some (.lst ds))) ∧ F.R (Av F σ (ρ.set i (some (.lst ds)))) H (.ref a) (.lst ds) ∧ Kp (Mut σ ρ) H (Mut σ (ρ.set i (some (.lst ds)))) H := by
  have nm : ∀ es, ¬ (some (D.lst ds) = some (D.own es) ∨ some (D.lst ds) = some (D.bor es)) := fun es h => by rcases h with h | h <;> cases h
  obtain ⟨v, e, sl⟩ := ok.slot i _ h
  cases sl with
  | rep r => exact r.noOwn.elim
  | own ha h0 no r =>
  rename_i a vs
  have hm : ∀ b, Mut σ (ρ.set i (some (.lst ds))) b → Mut σ ρ b := fun b ⟨j, m, e⟩ => by
    rcases isM_set m with ⟨_, es, q⟩ | ⟨n, m⟩
    · exact (nm es q).elim
    · exact ⟨j, m, e⟩
  have na : ¬ Av F σ (ρ.set i (some (.lst ds))) a := by
    intro q
    rcases q with q | ⟨j, m, e'⟩
    · exact no q
    · rcases isM_set m with ⟨_, es, q⟩ | ⟨n, m⟩
      · exact (nm es q).elim
      · exact ok.dist j i a n m ⟨ds, .inl h⟩ e' e
  have kp : Kp (Av F σ ρ) H (Av F σ (ρ.set i (some (.lst ds)))) H := .weak fun b q => by
    rcases q with q | q
    · exact .inl q
    · exact .inr (hm b q)
  have rep : F.R (Av F σ (ρ.set i (some (.lst ds)))) H (.ref a) (.lst ds) := .lst ha na (RepL.step kp r)
  refine ⟨a, e, ?_, rep, .weak hm⟩
  exact {
    len := by rw [List.length_set]; exact ok.len
    slot := fun j x hx => by
      by_cases e2 : i = j
      · subst e2
        rw [List.getElem?_set] at hx
        simp at hx
        obtain ⟨_, rfl⟩ := hx
        exact ⟨_, e, .rep rep⟩
      · rw [List.getElem?_set_ne e2] at hx
        obtain ⟨v', e3, e4⟩ := ok.slot j x hx
        exact ⟨v', e3, e4.step kp fun _ _ _ _ e => e⟩
    dist := fun j k b n m1 m2 e1 e2 => by
      rcases isM_set m1 with ⟨_, es, q⟩ | ⟨n1, m1⟩
      · exact nm es q
      rcases isM_set m2 with ⟨_, es, q⟩ | ⟨n2, m2⟩
      · exact nm es q
      exact ok.dist j k b n m1 m2 e1 e2
    keep := ok.keep
    out := ok.out
    bo := ok.bo
    held := fun p hp => p.st _ _ _ _ (ok.held p hp) kp }
/-- the slot of a name -/
def setE : List Str → En → Str → Option D → En
  | n :: ns, o :: os, x, v => if x = n then v :: os else o :: setE ns os x v
  | _, ρ, _, _ => ρ
theorem setE_eq {v : Option D} : ∀ {N : List Str} {ρ : En} {x : Str} {i : Nat}, N[i]? = some x → N.Nodup → setE N ρ x v = ρ.set i v
  | [], _, _, _, h, _ => by simp at h
  | n :: ns, [], x, i, h, _ => by simp [setE]
  | n :: ns, o :: os, x, 0, h, _ => by
    have e : n = x := by simpa using h
    unfold setE
    rw [if_pos e.symm]
    rfl
  | n :: ns, o :: os, x, i + 1, h, hn => by
    have h' : ns[i]? = some x := by simpa using h
    have hne : x ≠ n := fun e => (List.nodup_cons.mp hn).1 (e ▸ List.mem_of_getElem? h')
    unfold setE
    rw [if_neg hne, setE_eq h' (List.nodup_cons.mp hn).2]
    rfl
theorem d_nameO {ds : List D} (hN : X.N.Nodup) (h : (X.N.zip ρ).lookup x = some (some (.own ds))) (hv : Vis X.env.scope x) (hd : (x == ("__debug__" : Str)) = false) (hcd : (x == ("__classdict__" : Str)) = false) (q : Q (.lst ds) (setE X.N ρ x (some (.lst ds)))) : DE X F (.Name x pos) ρ Q := by
  intro σ H ok
  obtain ⟨i, h1, h2⟩ := look_en h
  obtain ⟨a, e, ok', r, kp⟩ := ok.freeze h2
  rw [setE_eq h1 hN] at q
  exact re_of (pe_var h1 hv hd hcd) ⟨_, e, _, _, .rep ok' r, kp, q⟩
theorem d_bin {op : Operator} (q : DE X F a ρ fun x ρ1 => DE X F b ρ1 fun y ρ2 => DO X F (binaryOp op) x.fz y.fz ρ2 Q) : DE X F (.BinOp a op b pos) ρ Q := fun σ H ok =>
  e_bin (de_run q ok fun v H1 x ρ1 ok1 r1 k1 q1 => de_run q1 ok1 fun u H2 y ρ2 ok2 r2 k2 q2 => ro_mono (q2 σ H2 v u ok2 (r1.step k2.mut) r2) fun z H3 ⟨d, ρ3, res, k3, q⟩ => ⟨d, ρ3, res, (k1.trans k2).trans k3, q⟩)
theorem d_un {op : UnaryOp} (q : DE X F a ρ fun x ρ1 => DU X F (unaryOp op) x.fz ρ1 Q) : DE X F (.UnaryOp op a pos) ρ Q := fun σ H ok =>
  e_un (de_run q ok fun v H1 x ρ1 ok1 r1 k1 q1 => ru_mono (q1 σ H1 v ok1 r1) fun z H3 ⟨d, ρ3, res, k3, q⟩ => ⟨d, ρ3, res, k1.trans k3, q⟩)
theorem d_not (q : DE X F a ρ fun x ρ1 => ∃ c, x = .bl c ∧ Q (.bl (!c)) ρ1) : DE X F (.UnaryOp .Not a pos) ρ Q := fun σ H ok =>
  e_not (de_run q ok fun v H1 x ρ1 ok1 r1 k1 ⟨c, hx, q1⟩ => by subst hx; exact ⟨c, r1.blV, _, ρ1, .rep ok1 (.bl _), k1, q1⟩)
theorem d_cmp {op : CmpOp} (hm : behindInMarks op b = false) (q : DE X F a ρ fun x ρ1 => DE X F b ρ1 fun y ρ2 => DO X F (compareOp op) x.fz y.fz ρ2 Q) : DE X F (.Compare a [op] [b] pos) ρ Q := fun σ H ok =>
  e_cmp hm (de_run q ok fun v H1 x ρ1 ok1 r1 k1 q1 => de_run q1 ok1 fun u H2 y ρ2 ok2 r2 k2 q2 => ro_mono (q2 σ H2 v u ok2 (r1.step k2.mut) r2) fun z H3 ⟨d, ρ3, res, k3, q⟩ => ⟨d, ρ3, res, (k1.trans k2).trans k3, q⟩)
theorem d_one {op} (q : DE X F a ρ Q) : DE X F (.BoolOp op [a] pos) ρ Q := fun σ H ok => e_one (q σ H ok)
theorem d_and (q : DE X F a ρ fun x ρ1 => ∃ k, x = .bl k ∧ if k = true then DE X F (.BoolOp .And (b :: es) pos) ρ1 Q else Q (.bl false) ρ1) : DE X F (.BoolOp .And (a :: b :: es) pos) ρ Q := fun σ H ok =>
  e_and (de_run q ok fun v H1 x ρ1 ok1 r1 k1 ⟨k, hx, q1⟩ => by
    subst hx
    refine ⟨k, r1.blV, ?_⟩
    cases k with
    | true => exact iteT (re_mono ((show DE X F (.BoolOp .And (b :: es) pos) ρ1 Q from q1) σ H1 ok1) fun z H3 ⟨d, ρ3, res, k3, q⟩ => ⟨d, ρ3, res, k1.trans k3, q⟩)
    | false => exact iteF ⟨_, ρ1, .rep ok1 (.bl _), k1, q1⟩)
theorem d_or (q : DE X F a ρ fun x ρ1 => ∃ k, x = .bl k ∧ if k = true then Q (.bl true) ρ1 else DE X F (.BoolOp .Or (b :: es) pos) ρ1 Q) : DE X F (.BoolOp .Or (a :: b :: es) pos) ρ Q := fun σ H ok =>
  e_or (de_run q ok fun v H1 x ρ1 ok1 r1 k1 ⟨k, hx, q1⟩ => by
    subst hx
    refine ⟨k, r1.blV, ?_⟩
    cases k with
    | false => exact iteF (re_mono ((show DE X F (.BoolOp .Or (b :: es) pos) ρ1 Q from q1) σ H1 ok1) fun z H3 ⟨d, ρ3, res, k3, q⟩ => ⟨d, ρ3, res, k1.trans k3, q⟩)
    | true => exact iteT ⟨_, ρ1, .rep ok1 (.bl _), k1, q1⟩)
theorem dt_run {R : Bool → Hp → Prop} (h : DT X F e ρ QB) (ok : Ok F H σ ρ) (k : ∀ b H' ρ', Ok F H' σ ρ' → Kp (Mut σ ρ) H (Mut σ ρ') H' → QB b ρ' → R b H') : RT X e σ H R :=
  rt_mono (h σ H ok) fun v H' ⟨ρ', r, kp, q⟩ => k v H' ρ' r kp q
theorem d_if (q : DT X F c ρ fun k ρ1 => if k = true then DE X F a ρ1 Q else DE X F b ρ1 Q) : DE X F (.IfExp c a b pos) ρ Q := fun σ H ok =>
  e_if (dt_run q ok fun k H1 ρ1 ok1 k1 q1 => by
    cases k with
    | true => exact iteT (re_mono ((show DE X F a ρ1 Q from q1) σ H1 ok1) fun z H3 ⟨d, ρ3, res, k3, q⟩ => ⟨d, ρ3, res, k1.trans k3, q⟩)
    | false => exact iteF (re_mono ((show DE X F b ρ1 Q from q1) σ H1 ok1) fun z H3 ⟨d, ρ3, res, k3, q⟩ => ⟨d, ρ3, res, k1.trans k3, q⟩))
theorem d_chain {op op' : CmpOp} (hm : lastMarks [op, op'] [b, c] = false) (q : DE X F a ρ fun x ρ1 => DE X F b ρ1 fun y ρ2 => DO X F (compareOp op) x.fz y.fz ρ2 fun z ρ3 => ∃ k, z = .bl k ∧ (if k = true then DE X F c ρ3 fun u ρ4 => DO X F (compareOp op') y.fz u.fz ρ4 Q else Q (.bl false) ρ3)) :
    DE X F (.Compare a [op, op'] [b, c] pos) ρ Q := fun σ H ok =>
  e_chain hm (de_run q ok fun v H1 x ρ1 ok1 r1 k1 q1 => de_run q1 ok1 fun u H2 y ρ2 ok2 r2 k2 q2 => ro_mono (q2 σ H2 v u ok2 (r1.step k2.mut) r2) fun z H3 ⟨d, ρ3, res, k3, q⟩ => by
    obtain ⟨k, rfl, q⟩ := q
    refine ⟨k, res.fz.2.blV, ?_⟩
    cases k with
    | false => exact iteF ⟨_, ρ3, .rep res.ok (.bl _), (k1.trans k2).trans k3, q⟩
    | true => exact iteT (de_run (show DE X F c ρ3 _ from q) res.ok fun t H4 y4 ρ4 ok4 r4 k4 q4 => ro_mono (q4 σ H4 u t ok4 ((r2.step k3.mut).step k4.mut) r4) fun z H5 ⟨d, ρ5, res, k5, q⟩ => ⟨d, ρ5, res, (((k1.trans k2).trans k3).trans k4).trans k5, q⟩))
/-! ### tests -/
theorem dt_val (he : ∀ whole, isTrue e X.env whole = (do let v ← whole; standAt e.pos; holding [v] (truthy v))) (q : DE X F e ρ fun x ρ1 => DTru X F x.fz ρ1 QB) : DT X F e ρ QB := fun σ H ok =>
  t_val he (de_run q ok fun v H1 x ρ1 ok1 r1 k1 q1 => rtru_mono (q1 σ H1 v ok1 r1) fun z H3 ⟨ρ3, res, k3, q⟩ => ⟨ρ3, res, k1.trans k3, q⟩)
theorem dt_cmp {op : CmpOp} (hm : behindInMarks op b = false) (q : DE X F a ρ fun x ρ1 => DE X F b ρ1 fun y ρ2 => DO X F (compareOp op) x.fz y.fz ρ2 fun z ρ3 => ∃ k, z = .bl k ∧ QB k ρ3) : DT X F (.Compare a [op] [b] pos) ρ QB := fun σ H ok =>
  t_cmp hm (de_run q ok fun v H1 x ρ1 ok1 r1 k1 q1 => de_run q1 ok1 fun u H2 y ρ2 ok2 r2 k2 q2 => ro_mono (q2 σ H2 v u ok2 (r1.step k2.mut) r2) fun z H3 ⟨d, ρ3, res, k3, k, hd, q⟩ => by
    subst hd
    exact ⟨k, res.fz.2.blV, ρ3, res.ok, (k1.trans k2).trans k3, q⟩)
theorem dt_not (q : DT X F a ρ fun k ρ1 => QB (!k) ρ1) : DT X F (.UnaryOp .Not a pos) ρ QB := fun σ H ok => t_not (dt_run q ok fun k H1 ρ1 ok1 k1 q1 => ⟨ρ1, ok1, k1, q1⟩)
theorem dt_pw (q : DW X F e ρ QB) : DT X F e ρ QB := fun σ H ok => t_pw (q σ H ok)
theorem dw_and1 (q : DT X F a ρ QB) : DW X F (.BoolOp .And [a] pos) ρ QB := fun σ H ok => w_and1 (q σ H ok)
theorem dw_or1 (q : DT X F a ρ QB) : DW X F (.BoolOp .Or [a] pos) ρ QB := fun σ H ok => w_or1 (q σ H ok)
theorem dw_and (q : DT X F a ρ fun k ρ1 => if k = true then DW X F (.BoolOp .And (b :: es) pos) ρ1 QB else QB false ρ1) : DW X F (.BoolOp .And (a :: b :: es) pos) ρ QB := fun σ H ok =>
  w_and (dt_run q ok fun k H1 ρ1 ok1 k1 q1 => by
    cases k with
    | true => exact iteT (rw_mono ((show DW X F _ ρ1 QB from q1) σ H1 ok1) fun z H3 ⟨ρ3, res, k3, q⟩ => ⟨ρ3, res, k1.trans k3, q⟩)
    | false => exact iteF ⟨ρ1, ok1, k1, q1⟩)
theorem dw_or (q : DT X F a ρ fun k ρ1 => if k = true then QB true ρ1 else DW X F (.BoolOp .Or (b :: es) pos) ρ1 QB) : DW X F (.BoolOp .Or (a :: b :: es) pos) ρ QB := fun σ H ok =>
  w_or (dt_run q ok fun k H1 ρ1 ok1 k1 q1 => by
    cases k with
    | false => exact iteF (rw_mono ((show DW X F _ ρ1 QB from q1) σ H1 ok1) fun z H3 ⟨ρ3, res, k3, q⟩ => ⟨ρ3, res, k1.trans k3, q⟩)
    | true => exact iteT ⟨ρ1, ok1, k1, q1⟩)
/-! ### arguments -/
theorem AgsP.step {σ : St} (k : Kp (Av F σ ρ) H (Av F σ ρ') H') : ∀ {vs : List V} {as : List Ag}, AgsP F σ ρ H vs as → AgsP F σ ρ' H' vs as
  | _, _, .nil => .nil
  | _, _, .d r t => .d (Rep.step k r) (AgsP.step k t)
  | _, _, .len e t => .len e (AgsP.step k t)
theorem da_nil {QA : List Ag → En → Prop} (q : QA [] ρ) : DA X F [] ρ QA := fun σ H ok => a_nil ⟨[], ρ, ok, .nil, .refl, q⟩
theorem da_cons {QA : List Ag → En → Prop} (hs : starEach (e :: es) X.env = (false, eval e X.env) :: starEach es X.env) (q : DE X F e ρ fun x ρ1 => DA X F es ρ1 fun xs ρ2 => QA (.d x.fz :: xs) ρ2) : DA X F (e :: es) ρ QA := fun σ H ok =>
  a_cons hs (de_run q ok fun v H1 x ρ1 ok1 r1 k1 q1 => ra_mono (q1 σ H1 ok1) fun vs H2 ⟨as, ρ2, ok2, ps, k2, q⟩ => ⟨.d x.fz :: as, ρ2, ok2, .d (r1.step k2.mut) ps, k1.trans k2, q⟩)
/-- a list is lent -/
theorem da_lend {QA : List Ag → En → Prop} (hi : X.N[i]? = some x) (hm : ∃ d, ρ[i]? = some (some d)) (hv : Vis X.env.scope x) (hd : (x == ("__debug__" : Str)) = false) (hcd : (x == ("__classdict__" : Str)) = false) (hs : starEach (.Name x pos :: es) X.env = (false, eval (.Name x pos) X.env) :: starEach es X.env)
    (q : DA X F es ρ fun xs ρ2 => QA (.len i :: xs) ρ2) : DA X F (.Name x pos :: es) ρ QA := fun σ H ok => by
  obtain ⟨d, hm⟩ := hm
  obtain ⟨v, h3, h4⟩ := ok.slot i d hm
  exact a_cons hs (re_of (pe_var hi hv hd hcd) ⟨v, h3, ra_mono (q σ H ok) fun vs H2 ⟨as, ρ2, ok2, ps, k2, q⟩ => ⟨.len i :: as, ρ2, ok2, .len h3 ps, k2, q⟩⟩)
/-- the arguments when all are values -/
def agV : List Ag → Option (List D)
  | [] => some []
  | .d x :: as => match agV as with
    | some xs => some (x :: xs)
    | none => none
  | .len _ :: _ => none
theorem AgsP.vals : ∀ {vs : List V} {as : List Ag} {ds : List D}, AgsP F σ ρ H vs as → agV as = some ds → F.L (Av F σ ρ) H vs ds
  | _, _, ds, .nil, e => by cases e; exact .nil
  | _, _, ds, .d r t, e => by
    unfold agV at e
    split at e
    · rename_i es e1
      cases e
      exact .cons r (AgsP.vals t e1)
    · cases e
  | _, _, ds, .len _ _, e => by cases e
end
end Dx

end
section -- Df
set_option maxRecDepth 100000
set_option maxHeartbeats 4000000
/-! Values: displays, operators, subscripts, built-ins. -/
namespace Dx
open PySem PySem.Spec L2 Sx
open PyProof.Rows hiding St

section
variable {X : Cx} {F : Fx} {e a b c o : Expr} {es : List Expr} {ρ ρ' ρ1 : En} {σ : St} {H H' : Hp} {Q : DQ} {QB : Bool → En → Prop} {pos p apos : Pos} {x : Str} {d : D} {v u : V} {i j : Int}
theorem Ok.kpOut {q : Addr} {o : HO} (h : H q = none) : Kp (Av F σ ρ) H (Av (F.out q) σ ρ) (upd H q o) :=
  ⟨fun b u e _ => grow_upd h b u e, fun b u e n m => by
    rcases m with (m | m) | m
    · exact n (.inl m)
    · subst m; rw [h] at e; cases e
    · exact n (.inr m)⟩
theorem res_own {q : Addr} {vs : List V} {ds : List D} (ok : Ok F H σ ρ) (h : H q = none) (r : F.L (Av F σ ρ) H vs ds) : Res F (upd H q (.lst vs)) σ (.ref q) (.own ds) ρ :=
  .own upd_same (ok.n0 h) (fun m => ok.navn h (.inl m)) (fun m => ok.navn h (.inl (ok.bo q m))) (fun m => ok.navn h (.inr m)) (ok.addOut h) (r.step (Ok.kpOut h))
theorem res_tup {q : Addr} {vs : List V} {ds : List D} (ok : Ok F H σ ρ) (h : H q = none) (r : F.L (Av F σ ρ) H vs ds) : Res F (upd H q (.tup vs)) σ (.ref q) (.tup ds) ρ :=
  .rep (ok.new h) (.tup (.inl upd_same) (ok.navn h) (r.step (.new (grow_upd h))))
theorem res_same (ok : Ok F H σ ρ) (r : F.R (Av F σ ρ) H v d) (q : Q d ρ) : ∃ d ρ', Res F H σ v d ρ' ∧ Kp (Mut σ ρ) H (Mut σ ρ') H ∧ Q d ρ' := ⟨d, ρ, .rep ok r, .refl, q⟩
/-- ( , .. ) and [ , .. ] -/
theorem d_tup {k} (q : DA X F es ρ fun as ρ1 => ∃ ds, agV as = some ds ∧ ds.length ≤ sizeLine ∧ Q (.tup ds) ρ1) : DE X F (.Tuple es k pos) ρ Q := fun σ H ok =>
  e_tup (ra_mono (q σ H ok) fun vs H1 ⟨as, ρ1, ok1, ps, k1, ds, e, hl, q⟩ => by
    have r := ps.vals e
    exact ⟨by rw [r.len]; exact hl, fun p hp => ⟨_, ρ1, res_tup ok1 hp r, k1.trans (.new (grow_upd hp)), q⟩⟩)
theorem d_lst (q : DA X F es ρ fun as ρ1 => ∃ ds, agV as = some ds ∧ ds.length ≤ sizeLine ∧ Q (.own ds) ρ1) : DE X F (.List es pos) ρ Q := fun σ H ok =>
  e_lst (ra_mono (q σ H ok) fun vs H1 ⟨as, ρ1, ok1, ps, k1, ds, e, hl, q⟩ => by
    have r := ps.vals e
    exact ⟨by rw [r.len]; exact hl, fun p hp => ⟨_, ρ1, res_own ok1 hp r, k1.trans (.new (grow_upd hp)), q⟩⟩)
/-! ### ints -/
theorem do_int (f : Value → Value → Sem Value) (z : D) (vz : V) (h : ∀ σ H (Q' : VK), Ok F H σ ρ → Q' vz H → RO X f (.int i) (.int j) H Q') (hz : ∀ σ H, F.R (Av F σ ρ) H vz z) (q : Q z ρ) : DO X F f (.int i) (.int j) ρ Q := fun σ H v u ok r1 r2 => by
  rw [r1.intV, r2.intV]
  exact h σ H _ ok (res_same ok (hz σ H) q)
theorem do_add (q : Q (.int (i + j)) ρ) : DO X F (binaryOp .Add) (.int i) (.int j) ρ Q := do_int _ _ _ (fun _ _ _ _ k => o_add k) (fun _ _ => .int _) q
theorem do_sub (q : Q (.int (i - j)) ρ) : DO X F (binaryOp .Sub) (.int i) (.int j) ρ Q := do_int _ _ _ (fun _ _ _ _ k => o_sub k) (fun _ _ => .int _) q
theorem do_mul (hc : IntMulOk i j) (q : Q (.int (i * j)) ρ) : DO X F (binaryOp .Mult) (.int i) (.int j) ρ Q := do_int _ _ _ (fun _ _ _ _ k => o_mul hc k) (fun _ _ => .int _) q
theorem do_mod (h : 0 < j) (q : Q (.int (i % j)) ρ) : DO X F (binaryOp .Mod) (.int i) (.int j) ρ Q := do_int _ _ _ (fun _ _ _ _ k => o_mod h k) (fun _ _ => .int _) q
theorem do_fdiv (h : 0 < j) (hb : j < 2 ^ 8999) (q : Q (.int (i / j)) ρ) : DO X F (binaryOp .FloorDiv) (.int i) (.int j) ρ Q := do_int _ _ _ (fun _ _ _ _ k => o_fdiv h hb k) (fun _ _ => .int _) q
theorem do_pow (h : 0 ≤ j ∧ j ≤ 1000000 ∧ i.natAbs < 2 ^ 64) (q : Q (.int (i ^ j.toNat)) ρ) : DO X F (binaryOp .Pow) (.int i) (.int j) ρ Q := do_int _ _ _ (fun _ _ _ _ k => o_pow h k) (fun _ _ => .int _) q
theorem do_orN {m n : Nat} (q : Q (.int ((m ||| n : Nat) : Int)) ρ) : DO X F (binaryOp .BitOr) (.int (m : Int)) (.int (n : Int)) ρ Q := do_int _ _ _ (fun _ _ _ _ k => o_orN k) (fun _ _ => .int _) q
theorem do_andN {m n : Nat} (q : Q (.int ((m &&& n : Nat) : Int)) ρ) : DO X F (binaryOp .BitAnd) (.int (m : Int)) (.int (n : Int)) ρ Q := do_int _ _ _ (fun _ _ _ _ k => o_andN k) (fun _ _ => .int _) q
theorem do_andOne {m : Nat} (q : Q (.int ((m &&& 1 : Nat) : Int)) ρ) : DO X F (binaryOp .BitAnd) (.int (m : Int)) (.int 1) ρ Q := do_int _ _ _ (fun _ _ _ _ k => o_andOne k) (fun _ _ => .int _) q
theorem do_xorN {m n : Nat} (q : Q (.int ((m ^^^ n : Nat) : Int)) ρ) : DO X F (binaryOp .BitXor) (.int (m : Int)) (.int (n : Int)) ρ Q := do_int _ _ _ (fun _ _ _ _ k => o_xorN k) (fun _ _ => .int _) q
theorem do_and (q : Q (.int (Builtin.bitAnd i j)) ρ) : DO X F (binaryOp .BitAnd) (.int i) (.int j) ρ Q := do_int _ _ _ (fun _ _ _ _ k => o_and k) (fun _ _ => .int _) q
theorem do_shrN {m n : Nat} (q : Q (.int ((m >>> n : Nat) : Int)) ρ) : DO X F (binaryOp .RShift) (.int (m : Int)) (.int (n : Int)) ρ Q := do_int _ _ _ (fun _ _ _ _ k => o_shrN k) (fun _ _ => .int _) q
theorem do_shlN {m n k : Nat} (ha : m < 2 ^ k) (hb : k + n ≤ 134217728) (q : Q (.int ((m <<< n : Nat) : Int)) ρ) : DO X F (binaryOp .LShift) (.int (m : Int)) (.int (n : Int)) ρ Q := do_int _ _ _ (fun _ _ _ _ k => o_shlN ha hb k) (fun _ _ => .int _) q
theorem do_oneShl {n : Nat} (hb : n ≤ 1000000) (q : Q (.int ((1 <<< n : Nat) : Int)) ρ) : DO X F (binaryOp .LShift) (.int 1) (.int (n : Int)) ρ Q := do_int _ _ _ (fun _ _ _ _ k => o_oneShl hb k) (fun _ _ => .int _) q
theorem dc_lt (q : Q (.bl (decide (i < j))) ρ) : DO X F (compareOp .Lt) (.int i) (.int j) ρ Q := do_int _ _ _ (fun _ _ _ _ k => c_lt k) (fun _ _ => .bl _) q
theorem dc_le (q : Q (.bl (decide (i ≤ j))) ρ) : DO X F (compareOp .LtE) (.int i) (.int j) ρ Q := do_int _ _ _ (fun _ _ _ _ k => c_le k) (fun _ _ => .bl _) q
theorem dc_gt (q : Q (.bl (decide (j < i))) ρ) : DO X F (compareOp .Gt) (.int i) (.int j) ρ Q := do_int _ _ _ (fun _ _ _ _ k => c_gt k) (fun _ _ => .bl _) q
theorem dc_ge (q : Q (.bl (decide (j ≤ i))) ρ) : DO X F (compareOp .GtE) (.int i) (.int j) ρ Q := do_int _ _ _ (fun _ _ _ _ k => c_ge k) (fun _ _ => .bl _) q
theorem dc_eqI (q : Q (.bl (decide (i = j))) ρ) : DO X F (compareOp .Eq) (.int i) (.int j) ρ Q := do_int _ _ _ (fun _ _ _ _ k => c_eqI k) (fun _ _ => .bl _) q
theorem dc_neI (q : Q (.bl (!decide (i = j))) ρ) : DO X F (compareOp .NotEq) (.int i) (.int j) ρ Q := do_int _ _ _ (fun _ _ _ _ k => c_neI k) (fun _ _ => .bl _) q
theorem dc_eqS {y z : Str} (q : Q (.bl (decide (y = z))) ρ) : DO X F (compareOp .Eq) (.str y) (.str z) ρ Q := fun σ H v u ok r1 r2 => by
  rw [r1.strV, r2.strV]; exact c_eqS (res_same ok (.bl _) q)
theorem dc_neS {y z : Str} (q : Q (.bl (!decide (y = z))) ρ) : DO X F (compareOp .NotEq) (.str y) (.str z) ρ Q := fun σ H v u ok r1 r2 => by
  rw [r1.strV, r2.strV]; exact c_neS (res_same ok (.bl _) q)
theorem dc_eqB {y z : Bool} (q : Q (.bl (decide (y = z))) ρ) : DO X F (compareOp .Eq) (.bl y) (.bl z) ρ Q := fun σ H v u ok r1 r2 => by
  rw [r1.blV, r2.blV]; exact c_eqB (res_same ok (.bl _) q)
theorem dc_neB {y z : Bool} (q : Q (.bl (!decide (y = z))) ρ) : DO X F (compareOp .NotEq) (.bl y) (.bl z) ρ Q := fun σ H v u ok r1 r2 => by
  rw [r1.blV, r2.blV]; exact c_neB (res_same ok (.bl _) q)
/-- x is None -/
def D.isNon : D → Bool
  | .non => true
  | _ => false
theorem Rep.isNon {K : PySem.W.Frag} {w : World} {cl : Str → Option Addr} {O : Addr → Prop} (r : Rep K w cl O H v d) : decide (v = .non) = d.isNon := by
  cases r <;> simp [D.isNon]
theorem dc_isN (q : Q (.bl d.isNon) ρ) : DO X F (compareOp .Is) d .non ρ Q := fun σ H v u ok r1 r2 => by
  rw [r2.nonV]; refine c_isN ?_; rw [r1.isNon]; exact res_same ok (.bl _) q
theorem dc_notN (q : Q (.bl (!d.isNon)) ρ) : DO X F (compareOp .IsNot) d .non ρ Q := fun σ H v u ok r1 r2 => by
  rw [r2.nonV]; refine c_notN ?_; rw [r1.isNon]; exact res_same ok (.bl _) q
theorem du_neg (q : Q (.int (-i)) ρ) : DU X F (unaryOp .USub) (.int i) ρ Q := fun σ H v ok r1 => by
  rw [r1.intV]; exact u_neg (res_same ok (.int _) q)
theorem du_inv (q : Q (.int (Builtin.bitNot i)) ρ) : DU X F (unaryOp .Invert) (.int i) ρ Q := fun σ H v ok r1 => by
  rw [r1.intV]; exact u_inv (res_same ok (.int _) q)
/-! ### truth -/
theorem dtr_bl {k : Bool} (q : QB k ρ) : DTru X F (.bl k) ρ QB := fun σ H v ok r => by
  rw [r.blV]; exact tr_bl ⟨ρ, ok, .refl, q⟩
theorem dtr_int (q : QB (i != 0) ρ) : DTru X F (.int i) ρ QB := fun σ H v ok r => by
  rw [r.intV]; exact tr_int ⟨ρ, ok, .refl, q⟩
theorem dtr_nat {m : Nat} (q : QB (decide (m ≠ 0)) ρ) : DTru X F (.int (m : Int)) ρ QB := fun σ H v ok r => by
  rw [r.intV]; exact tr_nat ⟨ρ, ok, .refl, q⟩
theorem dtr_non (q : QB false ρ) : DTru X F .non ρ QB := fun σ H v ok r => by
  rw [r.nonV]; exact rtru_of tru_ok ⟨false, rfl, ρ, ok, .refl, q⟩
theorem dtr_tup {ds : List D} [f : Fit X F] (q : QB (!ds.isEmpty) ρ) : DTru X F (.tup ds) ρ QB := fun σ H v ok r => by
  obtain ⟨a, xs, rfl, h, r⟩ := r.tupRef
  refine rtru_of tru_ok ⟨_, .inr (.inl ⟨xs, by rw [← f.K]; exact h, rfl⟩), ρ, ok, .refl, ?_⟩
  have e : xs.isEmpty = ds.isEmpty := by cases r <;> rfl
  rw [e]; exact q
theorem dtr_lst {ds : List D} [f : Fit X F] (q : QB (!ds.isEmpty) ρ) : DTru X F (.lst ds) ρ QB := fun σ H v ok r => by
  obtain ⟨a, xs, rfl, h, r⟩ := r.lstRef
  refine rtru_of tru_ok ⟨_, .inl ⟨xs, by rw [← f.K]; exact h, rfl⟩, ρ, ok, .refl, ?_⟩
  have e : xs.isEmpty = ds.isEmpty := by cases r <;> rfl
  rw [e]; exact q
/-! ### subscripts -/
theorem at_rep {K : PySem.W.Frag} {w : World} {cl : Str → Option Addr} {O : Addr → Prop} {vs : List V} {ds : List D} (r : RepL K w cl O H vs ds) (h : atI ds i = some d) : ∃ v, atI vs i = some v ∧ Rep K w cl O H v d := by
  have hl := r.len
  unfold atI at h ⊢
  rw [hl]
  cases e : ixN ds.length i with
  | none => rw [e] at h; cases h
  | some k =>
    rw [e] at h
    exact r.get h
theorem dix_tup {ds : List D} [f : Fit X F] (h : atI ds i = some d) (q : Q d ρ) : DIx X F (.tup ds) (.int i) ρ Q := fun σ H v u ok r1 r2 => by
  obtain ⟨a, xs, rfl, hx, r⟩ := r1.tupRef
  obtain ⟨z, h1, h2⟩ := at_rep r h
  rw [r2.intV]
  exact Sx.ix_tp (by rw [← f.K]; exact hx) h1 (res_same ok h2 q)
theorem dix_lst {ds : List D} [f : Fit X F] (h : atI ds i = some d) (q : Q d ρ) : DIx X F (.lst ds) (.int i) ρ Q := fun σ H v u ok r1 r2 => by
  obtain ⟨a, xs, rfl, hx, r⟩ := r1.lstRef
  obtain ⟨z, h1, h2⟩ := at_rep r h
  rw [r2.intV]
  exact Sx.ix_lst (by rw [← f.K]; exact hx) h1 (res_same ok h2 q)
theorem d_ix (hs : PlainIx b) (q : DE X F a ρ fun x ρ1 => DE X F b ρ1 fun y ρ2 => DIx X F x.fz y.fz ρ2 Q) : DE X F (.Subscript a b pos) ρ Q := fun σ H ok =>
  e_ix hs (de_run q ok fun v H1 x ρ1 ok1 r1 k1 q1 => de_run q1 ok1 fun u H2 y ρ2 ok2 r2 k2 q2 => rix_mono (q2 σ H2 v u ok2 (r1.step k2.mut) r2) fun z H3 ⟨d, ρ3, res, k3, q⟩ => ⟨d, ρ3, res, (k1.trans k2).trans k3, q⟩)
def D.mutIs : D → Option (List D)
  | .own ds => some ds
  | .bor ds => some ds
  | _ => none
/-- the items of a list in a slot -/
def D.items : D → Option (List D)
  | .own xs => some xs
  | .bor xs => some xs
  | .lst xs => some xs
  | .scr xs => some xs
  | _ => none
theorem Slot.items {O : Addr → Prop} {ds : List D} (h : Slot F O H v d) (e : d.items = some ds) : ∃ a vs, v = .ref a ∧ SqL F.K H a vs ∧ F.L O H vs ds := by
  cases h with
  | own h n o r => cases e; exact ⟨_, _, rfl, .inl (.inl h), r⟩
  | bor h n r => cases e; exact ⟨_, _, rfl, .inl (.inl h), r⟩
  | rep r =>
    cases r with
    | lst h n r => cases e; exact ⟨_, _, rfl, .inl (.inl h), r⟩
    | scr h n r => cases e; exact ⟨_, _, rfl, .inl h, r⟩
    | scrK h r => cases e; exact ⟨_, _, rfl, h H, r⟩
    | _ => cases e
/-- an item of a list in a slot, which may change on the way -/
theorem d_ixO {d0 : D} [f : Fit X F] (hs : PlainIx b) (h : (X.N.zip ρ).lookup x = some (some d0)) (hm0 : d0.mutIs.isSome = true) (hv : Vis X.env.scope x) (hd : (x == ("__debug__" : Str)) = false) (hcd : (x == ("__classdict__" : Str)) = false) (hN : X.N.Nodup)
    (q : DE X F b ρ fun y ρ2 => ∃ i d1 ds d, y = .int i ∧ (X.N.zip ρ2).lookup x = some (some d1) ∧ d1.items = some ds ∧ atI ds i = some d ∧ Q d ρ2) : DE X F (.Subscript (.Name x p) b pos) ρ Q := fun σ H ok => by
  obtain ⟨i, h1, h2⟩ := look_en h
  obtain ⟨v, h3, h4⟩ := ok.slot i d0 h2
  refine e_ix hs (re_of (pe_var h1 hv hd hcd) ⟨v, h3, ?_⟩)
  refine de_run q ok fun u H2 y ρ2 ok2 r2 k2 ⟨k, d1, ds, d, hy, g1, g2, g3, q⟩ => ?_
  subst hy
  obtain ⟨i', h1', h2'⟩ := look_en g1
  have ei : i = i' := by
    have l1 := (List.getElem?_eq_some_iff.mp h1)
    have l2 := (List.getElem?_eq_some_iff.mp h1')
    obtain ⟨l1, e1⟩ := l1
    obtain ⟨l2, e2⟩ := l2
    exact (List.getElem_inj hN).mp (e1.trans e2.symm)
  subst ei
  obtain ⟨v', h3', h4'⟩ := ok2.slot i d1 h2'
  rw [h3] at h3'
  cases h3'
  obtain ⟨a, vs, rfl, hr, rl⟩ := h4'.items g2
  obtain ⟨z, z1, z2⟩ := at_rep rl g3
  rw [r2.intV]
  exact Sx.ix_lst (by rw [← f.K]; exact hr) z1 ⟨d, ρ2, .rep ok2 z2, k2, q⟩
/-! ### slices -/
def cutD (xs : List D) (lo hi : Option Int) : List D := (xs.drop (HT.sIx xs.length 0 lo)).take (HT.sIx xs.length xs.length hi - HT.sIx xs.length 0 lo)
theorem cut_rep {K : PySem.W.Frag} {w : World} {cl : Str → Option Addr} {O : Addr → Prop} {vs : List V} {ds : List D} {lo hi : Option Int} (r : RepL K w cl O H vs ds) : RepL K w cl O H (cutV vs lo hi) (cutD ds lo hi) := by
  unfold cutV cutD
  rw [r.len]
  exact (r.drop _).take _
/-- a part of a slice -/
def DP (X : Cx) (F : Fx) : Option Expr → En → (Option Int → En → Prop) → Prop
  | none, ρ, Q => Q none ρ
  | some e, ρ, Q => DE X F e ρ fun x ρ1 => ∃ i, x = .int i ∧ Q (some i) ρ1
theorem dp_run {lo : Option Expr} {QP : Option Int → En → Prop} {R : Option Int → Hp → Prop} (h : DP X F lo ρ QP) (ok : Ok F H σ ρ) (k : ∀ l H' ρ', Ok F H' σ ρ' → Kp (Mut σ ρ) H (Mut σ ρ') H' → QP l ρ' → R l H') : tO X lo σ H R := by
  cases lo with
  | none => exact p_none (k none H ρ ok .refl h)
  | some e => exact p_some (de_run h ok fun v H1 x ρ1 ok1 r1 k1 ⟨i, hx, q1⟩ => by subst hx; exact ⟨i, r1.intV, k (some i) H1 ρ1 ok1 k1 q1⟩)
def DSl (X : Cx) (F : Fx) (x : D) (l u : Option Int) (ρ : En) (Q : DQ) : Prop := ∀ σ H v, Ok F H σ ρ → F.R (Av F σ ρ) H v x → RSl X v l u H fun z H' => ∃ d ρ', Res F H' σ z d ρ' ∧ Kp (Mut σ ρ) H (Mut σ ρ') H' ∧ Q d ρ'
theorem rsl_mono {R Q : VK} {lo hi : Option Int} (h : RSl X v lo hi H R) (k : ∀ z H', R z H' → Q z H') : RSl X v lo hi H Q := fun pins s σ a vl vu sl I r1 h1 h2 h3 => by
  obtain ⟨T, id, e1, e2, e3⟩ := h pins s σ a vl vu sl I r1 h1 h2 h3
  exact ⟨T, id, e1, e2, thn e3 fun _ s' ⟨z, H', I', r, q⟩ => ⟨z, H', I', r, k z H' q⟩⟩
theorem d_sl {lo hi : Option Expr} {p2 : Pos} (q : DE X F e ρ fun x ρ1 => DP X F lo ρ1 fun l ρ2 => DP X F hi ρ2 fun u ρ3 => DSl X F x.fz l u ρ3 Q) : DE X F (.Subscript e (.Slice lo hi none p2) pos) ρ Q := fun σ H ok =>
  e_sl (de_run q ok fun v H1 x ρ1 ok1 r1 k1 q1 => dp_run q1 ok1 fun l H2 ρ2 ok2 k2 q2 => dp_run q2 ok2 fun u H3 ρ3 ok3 k3 q3 => rsl_mono (q3 σ H3 v ok3 ((r1.step k2.mut).step k3.mut)) fun z H4 ⟨d, ρ4, res, k4, q⟩ => ⟨d, ρ4, res, ((k1.trans k2).trans k3).trans k4, q⟩)
theorem dsl_lst {ds : List D} {lo hi : Option Int} [f : Fit X F] (q : Q (.own (cutD ds lo hi)) ρ) : DSl X F (.lst ds) lo hi ρ Q := fun σ H v ok r => by
  obtain ⟨a, xs, rfl, hx, r⟩ := r.lstRef
  exact sl_l (by rw [← f.K]; exact hx) fun l hl => ⟨_, ρ, res_own ok hl (cut_rep r), .new (grow_upd hl), q⟩
theorem dsl_tup {ds : List D} {lo hi : Option Int} [f : Fit X F] (q : Q (.tup (cutD ds lo hi)) ρ) : DSl X F (.tup ds) lo hi ρ Q := fun σ H v ok r => by
  have r0 := r
  obtain ⟨a, xs, rfl, hx, r⟩ := r.tupRef
  refine sl_t (by rw [← f.K]; exact hx) (fun ⟨h1, h2⟩ => ?_) (fun _ l hl => ⟨_, ρ, res_tup ok hl (cut_rep r), .new (grow_upd hl), q⟩)
  have e : cutD ds lo hi = ds := by
    unfold cutD
    rw [← r.len, h1, h2, List.drop_zero]
    exact List.take_of_length_le (by rw [r.len]; omega)
  rw [e] at q
  exact res_same ok r0 q
theorem dsl_str {z : Str} {lo hi : Option Int} (hz : z.length ≤ sizeLine) (q : Q (.str (cutS z lo hi)) ρ) : DSl X F (.str z) lo hi ρ Q := fun σ H v ok r => by
  rw [r.strV]
  exact sl_s hz (res_same ok (.str _) q)
/-! ### + of lists, tuples, texts -/
theorem do_catL {xs ys : List D} (hz : xs.length + ys.length ≤ sizeLine) (q : Q (.own (xs ++ ys)) ρ) : DO X F (binaryOp .Add) (.lst xs) (.lst ys) ρ Q := fun σ H v u ok r1 r2 => by
  cases r1 with
  | lst h1 n1 r1 =>
  cases r2 with
  | lst h2 n2 r2 =>
  exact o_cat h1 h2 (by rw [r1.len, r2.len]; exact hz) fun l hl => ⟨_, ρ, res_own ok hl (r1.app r2), .new (grow_upd hl), q⟩
theorem do_catT {xs ys : List D} [f : Fit X F] (hz : xs.length + ys.length ≤ sizeLine) (q : Q (.tup (xs ++ ys)) ρ) : DO X F (binaryOp .Add) (.tup xs) (.tup ys) ρ Q := fun σ H v u ok r1 r2 => by
  have s1 := r1
  have s2 := r2
  obtain ⟨a, us, rfl, h1, r1⟩ := r1.tupRef
  obtain ⟨b, ws, rfl, h2, r2⟩ := r2.tupRef
  refine o_catT (by rw [← f.K]; exact h1) (by rw [← f.K]; exact h2) (by rw [r1.len, r2.len]; exact hz) (fun e => ?_) (fun _ e => ?_) (fun _ _ l hl => ⟨_, ρ, res_tup ok hl (r1.app r2), .new (grow_upd hl), q⟩)
  · subst e
    cases r1
    exact res_same ok s2 q
  · subst e
    cases r2
    rw [List.append_nil] at q
    exact res_same ok s1 q
theorem do_catS {y z : Str} (h : y.length + z.length ≤ sizeLine) (q : Q (.str (y ++ z)) ρ) : DO X F (binaryOp .Add) (.str y) (.str z) ρ Q := fun σ H v u ok r1 r2 => by
  rw [r1.strV, r2.strV]; exact o_addS h (res_same ok (.str _) q)
/-- [x] * k -/
theorem do_rep {xs : List D} {k : Int} (h1 : -(2 ^ 63) ≤ k) (h2 : k < 2 ^ 63) (hz : xs.length * k.toNat ≤ sizeLine) (q : Q (.own (List.flatten (List.replicate k.toNat xs))) ρ) : DO X F (binaryOp .Mult) (.lst xs) (.int k) ρ Q := fun σ H v u ok r1 r2 => by
  rw [r2.intV]
  cases r1 with
  | lst h n r1 =>
  refine o_rep h h1 h2 (by rw [r1.len]; exact hz) fun l hl => ⟨_, ρ, res_own ok hl ?_, .new (grow_upd hl), q⟩
  generalize k.toNat = n
  induction n with
  | zero => exact .nil
  | succ n ih => rw [List.replicate_succ, List.replicate_succ, List.flatten_cons, List.flatten_cons]; exact r1.app ih
theorem dix_scr {ds : List D} [f : Fit X F] (h : atI ds i = some d) (q : Q d ρ) : DIx X F (.scr ds) (.int i) ρ Q := fun σ H v u ok r1 r2 => by
  obtain ⟨a, xs, rfl, hx, r⟩ := r1.scrRef
  obtain ⟨z, h1, h2⟩ := at_rep r h
  rw [r2.intV]
  exact Sx.ix_lst (by rw [← f.K]; exact hx) h1 (res_same ok h2 q)
theorem dsl_scr {ds : List D} {lo hi : Option Int} [f : Fit X F] (q : Q (.own (cutD ds lo hi)) ρ) : DSl X F (.scr ds) lo hi ρ Q := fun σ H v ok r => by
  obtain ⟨a, xs, rfl, hx, r⟩ := r.scrRef
  exact sl_l (by rw [← f.K]; exact hx) fun l hl => ⟨_, ρ, res_own ok hl (cut_rep r), .new (grow_upd hl), q⟩
/-! ### built-ins: len, tuple, list, set, sorted, min, max, sum, all, .. -/
theorem dc_len1 {x : D} (n : Nat) (hx : ∀ σ H v (Q' : VK), Ok F H σ ρ → F.R (Av F σ ρ) H v x → Q' (.int n) H → RC X (.builtin "len") [v] H Q') (q : Q (.int n) ρ) : DC X F (.builtin "len") [x] ρ Q := fun σ H vs ok r => by
  cases r with
  | cons r t => cases t; exact hx σ H _ _ ok r (res_same ok (.int _) q)
theorem dc_lenT {ds : List D} [f : Fit X F] (q : Q (.int ds.length) ρ) : DC X F (.builtin "len") [.tup ds] ρ Q := dc_len1 ds.length (fun σ H v Q' ok r k => by
  obtain ⟨a, xs, rfl, hx, r⟩ := r.tupRef
  rw [← r.len] at k
  exact b_lenT (by rw [← f.K]; exact hx) k) q
theorem dc_lenL {ds : List D} [f : Fit X F] (q : Q (.int ds.length) ρ) : DC X F (.builtin "len") [.lst ds] ρ Q := dc_len1 ds.length (fun σ H v Q' ok r k => by
  obtain ⟨a, xs, rfl, hx, r⟩ := r.lstRef
  rw [← r.len] at k
  exact b_lenL (by rw [← f.K]; exact hx) k) q
theorem dc_lenR {ds : List D} [f : Fit X F] (q : Q (.int ds.length) ρ) : DC X F (.builtin "len") [.scr ds] ρ Q := dc_len1 ds.length (fun σ H v Q' ok r k => by
  obtain ⟨a, xs, rfl, hx, r⟩ := r.scrRef
  rw [← r.len] at k
  exact b_lenL (by rw [← f.K]; exact hx) k) q
theorem dc_lenS {z : Str} (hz : z.length ≤ sizeLine) (q : Q (.int z.length) ρ) : DC X F (.builtin "len") [.str z] ρ Q := dc_len1 z.length (fun σ H v Q' ok r k => by
  rw [r.strV]
  exact rc_of call_len_str ⟨z, rfl, hz, k⟩) q
theorem dc_tupL {ds : List D} [f : Fit X F] (q : Q (.tup ds) ρ) : DC X F (.type "tuple") [.lst ds] ρ Q := fun σ H vs ok r => by
  cases r with
  | cons r t =>
    cases t
    obtain ⟨a, xs, rfl, hx, r⟩ := r.lstRef
    exact b_tupL (by rw [← f.K]; exact hx) fun l hl => ⟨_, ρ, res_tup ok hl r, .new (grow_upd hl), q⟩
theorem dc_tupT {ds : List D} [f : Fit X F] (q : Q (.tup ds) ρ) : DC X F (.type "tuple") [.tup ds] ρ Q := fun σ H vs ok r => by
  cases r with
  | cons r t =>
    cases t
    have r0 := r
    obtain ⟨a, xs, rfl, hx, r⟩ := r.tupRef
    exact b_tupT (by rw [← f.K]; exact hx) (res_same ok r0 q)
theorem dc_lstL {ds : List D} [f : Fit X F] (q : Q (.own ds) ρ) : DC X F (.type "list") [.lst ds] ρ Q := fun σ H vs ok r => by
  cases r with
  | cons r t =>
    cases t
    obtain ⟨a, xs, rfl, hx, r⟩ := r.lstRef
    exact b_lstL (by rw [← f.K]; exact hx) fun l hl => ⟨_, ρ, res_own ok hl r, .new (grow_upd hl), q⟩
theorem dc_lstT {ds : List D} [f : Fit X F] (q : Q (.own ds) ρ) : DC X F (.type "list") [.tup ds] ρ Q := fun σ H vs ok r => by
  cases r with
  | cons r t =>
    cases t
    obtain ⟨a, xs, rfl, hx, r⟩ := r.tupRef
    exact b_lstT (by rw [← f.K]; exact hx) fun l hl => ⟨_, ρ, res_own ok hl r, .new (grow_upd hl), q⟩
theorem dc_int1 (q : Q (.int i) ρ) : DC X F (.type "int") [.int i] ρ Q := fun σ H vs ok r => by
  cases r with
  | cons r t => cases t; rw [r.intV]; exact b_int (res_same ok (.int _) q)
theorem dc_abs (q : Q (.int (if i < 0 then -i else i)) ρ) : DC X F (.builtin "abs") [.int i] ρ Q := fun σ H vs ok r => by
  cases r with
  | cons r t => cases t; rw [r.intV]; exact b_abs (res_same ok (.int _) q)
theorem dc_max2 (hc : X.calm = true) (q : Q (.int (if j > i then j else i)) ρ) : DC X F (.builtin "max") [.int i, .int j] ρ Q := fun σ H vs ok r => by
  cases r with
  | cons r t => cases t with
    | cons r2 t => cases t; rw [r.intV, r2.intV]; exact b_max2 hc (res_same ok (.int _) q)
theorem dc_min2 (hc : X.calm = true) (q : Q (.int (if j < i then j else i)) ρ) : DC X F (.builtin "min") [.int i, .int j] ρ Q := fun σ H vs ok r => by
  cases r with
  | cons r t => cases t with
    | cons r2 t => cases t; rw [r.intV, r2.intV]; exact b_min2 hc (res_same ok (.int _) q)
theorem dc_divmod (h : 0 < j ∧ j < 1073741824) (q : Q (.tup [.int (i / j), .int (i % j)]) ρ) : DC X F (.builtin "divmod") [.int i, .int j] ρ Q := fun σ H vs ok r => by
  cases r with
  | cons r t => cases t with
    | cons r2 t => cases t; rw [r.intV, r2.intV]; exact b_divmod h fun l hl => ⟨_, ρ, res_tup ok hl (.cons (.int _) (.cons (.int _) .nil)), .new (grow_upd hl), q⟩
theorem lstInts {ns : List Int} {K : PySem.W.Frag} {w : World} {cl : Str → Option Addr} {O : Addr → Prop} (r : Rep K w cl O H v (.lst (ns.map D.int))) : ∃ a, v = .ref a ∧ SqL K H a (ns.map V.int) := by
  obtain ⟨a, xs, rfl, hx, r⟩ := r.lstRef
  rw [r.ints] at hx
  exact ⟨a, rfl, hx⟩
theorem tupInts {ns : List Int} {K : PySem.W.Frag} {w : World} {cl : Str → Option Addr} {O : Addr → Prop} (r : Rep K w cl O H v (.tup (ns.map D.int))) : ∃ a, v = .ref a ∧ SqT K H a (ns.map V.int) := by
  obtain ⟨a, xs, rfl, hx, r⟩ := r.tupRef
  rw [r.ints] at hx
  exact ⟨a, rfl, hx⟩
theorem res_set {q : Addr} {ns ks : List Int} (ok : Ok F H σ ρ) (h : H q = none) (nd : ks.Nodup) (m : ∀ k, k ∈ ks ↔ k ∈ ns) : Res F (upd H q (SetO F.w q (fun j => decide (j ∈ ns)) ks.length)) σ (.ref q) (.set ns) ρ :=
  .rep (ok.new h) (.set upd_same nd m (ok.navn h))
theorem dc_setL {ns : List Int} [f : Fit X F] (hc : X.calm = true) (hn : ns.length ≤ 1000) (q : Q (.set ns) ρ) : DC X F (.type "set") [.lst (ns.map D.int)] ρ Q := fun σ H vs ok r => by
  cases r with
  | cons r t =>
    cases t
    obtain ⟨a, rfl, hx⟩ := lstInts r
    exact b_setL hc (by rw [← f.K]; exact hx) hn fun l ks hl nd m => by
      rw [← f.w]
      exact ⟨_, ρ, res_set ok hl nd m, .new (grow_upd hl), q⟩
theorem dc_setT {ns : List Int} [f : Fit X F] (hc : X.calm = true) (hn : ns.length ≤ 1000) (q : Q (.set ns) ρ) : DC X F (.type "set") [.tup (ns.map D.int)] ρ Q := fun σ H vs ok r => by
  cases r with
  | cons r t =>
    cases t
    obtain ⟨a, rfl, hx⟩ := tupInts r
    exact b_setT hc (by rw [← f.K]; exact hx) hn fun l ks hl nd m => by
      rw [← f.w]
      exact ⟨_, ρ, res_set ok hl nd m, .new (grow_upd hl), q⟩
/-- sorted of a set, of a list of ints -/
theorem dc_sortSet {ns : List Int} [f : Fit X F] (hc : X.calm = true) (hn : ∀ ks : List Int, ks.Nodup → (∀ k, k ∈ ks ↔ k ∈ ns) → ks.length < 64) (q : ∀ ms : List Int, ms.Pairwise (· < ·) → (∀ k, k ∈ ms ↔ k ∈ ns) → Q (.own (ms.map D.int)) ρ) : DC X F (.builtin "sorted") [.set ns] ρ Q := fun σ H vs ok r => by
  cases r with
  | cons r t =>
    cases t
    cases r with
    | set h nd m n =>
      refine b_sortSet hc (by rw [← f.w]; exact h) (hn _ nd m) fun ms l h1 h2 hl => ⟨_, ρ, res_own ok hl (RepL.ofInts ms), .new (grow_upd hl), q ms h1 fun k => ?_⟩
      rw [h2 k]
      exact decide_eq_true_iff
theorem dc_sortL {ns : List Int} [f : Fit X F] (q : ∀ ms : List Int, ms.Perm ns → ms.Pairwise (· ≤ ·) → Q (.own (ms.map D.int)) ρ) : DC X F (.builtin "sorted") [.lst (ns.map D.int)] ρ Q := fun σ H vs ok r => by
  cases r with
  | cons r t =>
    cases t
    obtain ⟨a, rfl, hx⟩ := lstInts r
    exact b_sortL (by rw [← f.K]; exact hx) fun ms l h1 h2 hl => ⟨_, ρ, res_own ok hl (RepL.ofInts ms), .new (grow_upd hl), q ms h1 h2⟩
theorem bls_rep {K : PySem.W.Frag} {w : World} {cl : Str → Option Addr} {O : Addr → Prop} : ∀ {vs : List V} {bs : List Bool}, RepL K w cl O H vs (bs.map D.bl) → vs = bs.map V.bl
  | _, [], .nil => rfl
  | _, b :: bs, .cons r t => by rw [r.blV, bls_rep t]; rfl
theorem dc_all {bs : List Bool} [f : Fit X F] (hc : X.calm = true) (q : Q (.bl (bs.all id)) ρ) : DC X F (.builtin "all") [.lst (bs.map D.bl)] ρ Q := fun σ H vs ok r => by
  cases r with
  | cons r t =>
    cases t
    obtain ⟨a, xs, rfl, hx, r⟩ := r.lstRef
    rw [bls_rep r] at hx
    exact b_all hc (by rw [← f.K]; exact hx) (res_same ok (.bl _) q)
theorem dc_min {ns : List Int} [f : Fit X F] (hc : X.calm = true) (hn : 0 < ns.length) (q : ∀ m, m ∈ ns → (∀ y ∈ ns, m ≤ y) → Q (.int m) ρ) : DC X F (.builtin "min") [.lst (ns.map D.int)] ρ Q := fun σ H vs ok r => by
  cases r with
  | cons r t =>
    cases t
    obtain ⟨a, rfl, hx⟩ := lstInts r
    exact rc_of (cr_min hc) ⟨a, ns, rfl, by rw [← f.K]; exact hx, hn, fun m h1 h2 => res_same ok (.int _) (q m h1 h2)⟩
theorem dc_max {ns : List Int} [f : Fit X F] (hc : X.calm = true) (hn : 0 < ns.length) (q : ∀ m, m ∈ ns → (∀ y ∈ ns, y ≤ m) → Q (.int m) ρ) : DC X F (.builtin "max") [.lst (ns.map D.int)] ρ Q := fun σ H vs ok r => by
  cases r with
  | cons r t =>
    cases t
    obtain ⟨a, rfl, hx⟩ := lstInts r
    exact rc_of (cr_max hc) ⟨a, ns, rfl, by rw [← f.K]; exact hx, hn, fun m h1 h2 => res_same ok (.int _) (q m h1 h2)⟩
theorem dc_sum {ns : List Int} [f : Fit X F] (hc : X.calm = true) (q : Q (.int ns.sum) ρ) : DC X F (.builtin "sum") [.lst (ns.map D.int)] ρ Q := fun σ H vs ok r => by
  cases r with
  | cons r t =>
    cases t
    obtain ⟨a, rfl, hx⟩ := lstInts r
    exact rc_of (cr_sum hc) ⟨a, ns, rfl, by rw [← f.K]; exact hx, res_same ok (.int _) q⟩
theorem dc_gcd (q : Q (.int ((Nat.gcd i.natAbs j.natAbs : Nat) : Int)) ρ) : DC X F (.builtin "math.gcd") [.int i, .int j] ρ Q := fun σ H vs ok r => by
  cases r with
  | cons r t => cases t with
    | cons r2 t => cases t; rw [r.intV, r2.intV]; exact rc_of cr_gcd ⟨i, j, rfl, res_same ok (.int _) q⟩
/-- calls of built-ins by name, over their arguments -/
def DB (X : Cx) (F : Fx) (f : Value) (es : List Expr) (ρ : En) (Q : DQ) : Prop := DA X F es ρ fun as ρ1 => ∃ ds, agV as = some ds ∧ DC X F f ds ρ1 Q
theorem db_run {f : Value} (h : DB X F f es ρ Q) (ok : Ok F H σ ρ) : RA X es σ H fun vs H1 => RC X f vs H1 fun z H' => ∃ d ρ', Res F H' σ z d ρ' ∧ Kp (Mut σ ρ) H (Mut σ ρ') H' ∧ Q d ρ' :=
  ra_mono (h σ H ok) fun vs H1 ⟨as, ρ1, ok1, ps, k1, ds, e, q⟩ => rc_mono (q σ H1 vs ok1 (ps.vals e)) fun z H2 ⟨d, ρ2, r, k2, q⟩ => ⟨d, ρ2, r, k1.trans k2, q⟩
theorem d_callB {id : String} {fp : Pos} (hg : Gl X x) (hm : X.mg x = none) (hv : bootBuiltins x = some (.builtin id)) (hn : x ≠ "__name__") (hd : (x == ("__debug__" : Str)) = false) (hs : starEach (e :: es) X.env = (false, eval e X.env) :: starEach es X.env) (hpl : (backTo pos (starEach es X.env)).any (·.1) = false)
    (q : DB X F (.builtin id) (e :: es) ρ Q) : DE X F (.Call (.Name x fp) (e :: es) [] pos) ρ Q := fun σ H ok => e_callB hg hm hv hn hd hs hpl (db_run q ok)
theorem d_callTy {T : String} {fp : Pos} (hg : Gl X x) (hm : X.mg x = none) (hv : bootBuiltins x = some (.type T)) (hn : x ≠ "__name__") (hd : (x == ("__debug__" : Str)) = false) (hs : starEach (e :: es) X.env = (false, eval e X.env) :: starEach es X.env) (hpl : (backTo pos (starEach es X.env)).any (·.1) = false)
    (q : DB X F (.type T) (e :: es) ρ Q) : DE X F (.Call (.Name x fp) (e :: es) [] pos) ρ Q := fun σ H ok => e_callTy hg hm hv hn hd hs hpl (db_run q ok)
/-- a name of the module that holds an int -/
theorem d_globI {k : Int} {tk : Tok} (hg : Gl X x) (hm : X.mg x = some (.int k tk)) (hd : (x == ("__debug__" : Str)) = false) (q : Q (.int k) ρ) : DE X F (.Name x pos) ρ Q := fun σ H ok => e_glob (v := .int k) hg hm ⟨tk, rfl⟩ hd (res_same ok (.int _) q)
theorem d_bltTy {T : String} (hg : Gl X x) (hm : X.mg x = none) (hv : bootBuiltins x = some (.type T)) (hn : x ≠ "__name__") (hd : (x == ("__debug__" : Str)) = false) (q : Q (.ty T) ρ) : DE X F (.Name x pos) ρ Q := fun σ H ok => e_bltn (v := .ty T) hg hm hv rfl hn hd (res_same ok (.ty _) q)
/-- len of a list that is kept -/
theorem d_lenO {d0 : D} {ds : List D} {fp np : Pos} [f : Fit X F] (B : Blt X.mg) (hg : Gl X "len") (h : (X.N.zip ρ).lookup x = some (some d0)) (hi : d0.items = some ds) (hv : Vis X.env.scope x) (hd : (x == ("__debug__" : Str)) = false) (hcd : (x == ("__classdict__" : Str)) = false)
    (hs : starEach [.Name x np] X.env = (false, eval (.Name x np) X.env) :: starEach [] X.env) (q : Q (.int ds.length) ρ) : DE X F (.Call (.Name "len" fp) [.Name x np] [] pos) ρ Q := fun σ H ok => by
  obtain ⟨i, h1, h2⟩ := look_en h
  obtain ⟨v, h3, h4⟩ := ok.slot i d0 h2
  obtain ⟨a, vs, rfl, hr, rl⟩ := h4.items hi
  refine e_b_len B hg hs rfl (a_cons hs (re_of (pe_var h1 hv hd hcd) ⟨_, h3, a_nil ?_⟩))
  refine b_lenL (xs := vs) (by rw [← f.K]; exact hr) ?_
  rw [rl.len]
  exact res_same ok (.int _) q
end
end Dx

end
section -- Dg
set_option maxRecDepth 100000
set_option maxHeartbeats 4000000
/-! Defs: what they are called with, what they give back; statements. -/
namespace Dx
open PySem PySem.Spec L2 Sx
open PyProof.Rows hiding St

/-- a promise by values: the arguments, what is wanted of the result and of what is lent -/
abbrev DSp := List D → (D → List (List D) → Prop) → Prop
inductive ArgsR (K : PySem.W.Frag) (w : World) (cl : Str → Option Addr) (O : Addr → Prop) (H : Hp) : Option Addr → List V → List D → Prop where
  | nil : ArgsR K w cl O H none [] []
  | rep {ba : Option Addr} {v : V} {d : D} {vs : List V} {ds : List D} (r : Rep K w cl O H v d) (t : ArgsR K w cl O H ba vs ds) : ArgsR K w cl O H ba (v :: vs) (d :: ds)
  | bor {a : Addr} {us : List V} {xs : List D} {vs : List V} {ds : List D} (o : O a) (h : H a = some (.lst us)) (r : RepL K w cl O H us xs) (t : ArgsR K w cl O H none vs ds) : ArgsR K w cl O H (some a) (.ref a :: vs) (.bor xs :: ds)
def orT (O : Addr → Prop) (t : Option Addr) (b : Addr) : Prop := O b ∨ t = some b
structure Ret (K : PySem.W.Frag) (w : World) (cl : Str → Option Addr) (O : Addr → Prop) (H : Hp) (ba : Option Addr) (outs : List (List D)) (v : V) (H' : Hp) (d : D) (t : Option Addr) : Prop where
  keep : ∀ b o, H b = some o → ba ≠ some b → H' b = some o
  alloc : ∀ b, O b → Ch H' b
  out : ∀ a xs, ba = some a → outs = [xs] → ∃ us, H' a = some (.lst us) ∧ RepL K w cl (orT O t) H' us xs
  res : t = none → Rep K w cl O H' v d
  new : ∀ a, t = some a → ∃ us ds, v = .ref a ∧ d = .own ds ∧ H a = none ∧ H' a = some (.lst us) ∧ RepL K w cl (orT O t) H' us ds
def toSp (K : PySem.W.Frag) (w : World) (cl : Str → Option Addr) (sp : DSp) : Sp := fun vs H Q _ => ∃ ds O ba K', (∀ b, O b → Ch H b) ∧ ArgsR K w cl O H ba vs ds ∧ sp ds K' ∧ ∀ d outs, K' d outs → ∀ v H' t, Ret K w cl O H ba outs v H' d t → Q v H'

section
variable {K : PySem.W.Frag} {w : World} {cl : Str → Option Addr} {O : Addr → Prop} {H : Hp} {ba : Option Addr}
theorem ArgsR.len : ∀ {ba : Option Addr} {vs : List V} {ds : List D}, ArgsR K w cl O H ba vs ds → vs.length = ds.length
  | _, _, _, .nil => rfl
  | _, _, _, .rep _ t => by simp [ArgsR.len t]
  | _, _, _, .bor _ _ _ t => by simp [ArgsR.len t]
theorem ArgsR.of : ∀ {vs : List V} {ds : List D}, RepL K w cl O H vs ds → ArgsR K w cl O H none vs ds
  | _, _, .nil => .nil
  | _, _, .cons r t => .rep r (ArgsR.of t)
/-- what stands at the i-th place -/
theorem ArgsR.get : ∀ {ba : Option Addr} {vs : List V} {ds : List D} {i : Nat} {d : D}, ArgsR K w cl O H ba vs ds → ds[i]? = some d →
    ∃ v, vs[i]? = some v ∧ (Rep K w cl O H v d ∨ ∃ a us xs, ba = some a ∧ d = .bor xs ∧ v = .ref a ∧ O a ∧ H a = some (.lst us) ∧ RepL K w cl O H us xs)
  | _, _, _, _, _, .nil, e => by simp at e
  | _, _, _, 0, _, .rep r _, e => by simp at e; subst e; exact ⟨_, rfl, .inl r⟩
  | _, _, _, 0, _, .bor o h r _, e => by simp at e; subst e; exact ⟨_, rfl, .inr ⟨_, _, _, rfl, rfl, rfl, o, h, r⟩⟩
  | _, _, _, i + 1, _, .rep _ t, e => by
    obtain ⟨v, h1, h2⟩ := ArgsR.get t (i := i) (by simpa using e)
    exact ⟨v, by simpa using h1, h2⟩
  | _, _, _, i + 1, _, .bor _ _ _ t, e => by
    obtain ⟨v, h1, h2⟩ := ArgsR.get t (i := i) (by simpa using e)
    refine ⟨v, by simpa using h1, ?_⟩
    rcases h2 with h2 | ⟨a, us, xs, h2, _⟩
    · exact .inl h2
    · cases h2
theorem ArgsR.two : ∀ {ba : Option Addr} {vs : List V} {ds : List D} {i j : Nat} {xs ys : List D}, ArgsR K w cl O H ba vs ds → ds[i]? = some (.bor xs) → ds[j]? = some (.bor ys) → i = j
  | _, _, _, _, _, _, _, .nil, e, _ => by simp at e
  | _, _, _, 0, 0, _, _, _, _, _ => rfl
  | _, _, _, 0, j + 1, _, _, .rep r t, e, _ => by simp at e; subst e; exact r.noBor.elim
  | _, _, _, 0, j + 1, _, _, .bor _ _ _ t, _, f => by
    obtain ⟨v, _, h⟩ := ArgsR.get t (i := j) (by simpa using f)
    rcases h with h | ⟨_, _, _, h, _⟩
    · exact h.noBor.elim
    · cases h
  | _, _, _, i + 1, 0, _, _, .rep r t, _, f => by simp at f; subst f; exact r.noBor.elim
  | _, _, _, i + 1, 0, _, _, .bor _ _ _ t, e, _ => by
    obtain ⟨v, _, h⟩ := ArgsR.get t (i := i) (by simpa using e)
    rcases h with h | ⟨_, _, _, h, _⟩
    · exact h.noBor.elim
    · cases h
  | _, _, _, i + 1, j + 1, _, _, .rep _ t, e, f => by rw [ArgsR.two t (i := i) (j := j) (by simpa using e) (by simpa using f)]
  | _, _, _, i + 1, j + 1, _, _, .bor _ _ _ t, e, f => by rw [ArgsR.two t (i := i) (j := j) (by simpa using e) (by simpa using f)]
end

/-! ### the slots at the start of a def -/
def fx0 (K : PySem.W.Frag) (w : World) (cl : Str → Option Addr) (H : Hp) (O : Addr → Prop) (ba : Option Addr) : Fx := ⟨K, w, cl, H, fun b => ba = some b, O, []⟩
def startE (N : List Str) (ds : List D) : En := ds.map some ++ List.replicate (N.length - ds.length) none
section
variable {K : PySem.W.Frag} {w : World} {cl : Str → Option Addr} {O : Addr → Prop} {H : Hp} {ba : Option Addr} {vs : List V} {ds : List D} {N : List Str}
theorem startE_get {i : Nat} {d : D} (h : (startE N ds)[i]? = some (some d)) : ds[i]? = some d := by
  unfold startE at h
  by_cases hi : i < ds.length
  · rw [List.getElem?_append_left (by rw [List.length_map]; exact hi), List.getElem?_map] at h
    cases e : ds[i]? with
    | none => rw [e] at h; cases h
    | some x => rw [e] at h; simp at h; rw [h]
  · rw [List.getElem?_append_right (by rw [List.length_map]; omega)] at h
    have := List.mem_of_getElem? h
    simp at this
theorem start_get {i : Nat} {v : V} (h : vs[i]? = some v) : (L2.start N vs)[i]? = some (some v) := by
  unfold L2.start
  obtain ⟨hi, e⟩ := List.getElem?_eq_some_iff.mp h
  rw [List.getElem?_append_left (by rw [List.length_map]; exact hi), List.getElem?_map, h]
  rfl
theorem ok_start (ho : ∀ b, O b → Ch H b) (r : ArgsR K w cl O H ba vs ds) : Ok (fx0 K w cl H O ba) H (L2.start N vs) (startE N ds) := by
  have hb : ∀ b, ba = some b → O b := by
    intro b hb
    subst hb
    clear ho
    induction vs generalizing ds with
    | nil => cases r
    | cons v vs ih =>
      cases r with
      | rep _ t => exact ih t
      | bor o _ _ _ => exact o
  have hm : ∀ b, Av (fx0 K w cl H O ba) (L2.start N vs) (startE N ds) b → O b := by
    intro b q
    rcases q with q | ⟨i, ⟨xs, hx⟩, hi⟩
    · exact q
    · rcases hx with hx | hx
      · obtain ⟨v, _, h2⟩ := r.get (startE_get hx)
        rcases h2 with h2 | ⟨_, _, _, _, h2, _⟩
        · exact h2.noOwn.elim
        · cases h2
      · obtain ⟨v, h1, h2⟩ := r.get (startE_get hx)
        rcases h2 with h2 | ⟨a, us, ys, _, _, rfl, h3, _⟩
        · exact h2.noBor.elim
        · rw [start_get h1] at hi
          cases hi
          exact h3
  have kp : Kp O H (Av (fx0 K w cl H O ba) (L2.start N vs) (startE N ds)) H := .weak hm
  exact {
    len := by unfold startE L2.start; simp [r.len]
    slot := fun i d h => by
      obtain ⟨v, h1, h2⟩ := r.get (startE_get h)
      refine ⟨v, start_get h1, ?_⟩
      rcases h2 with h2 | ⟨a, us, xs, e1, rfl, rfl, h3, h4, h5⟩
      · exact .rep (Rep.step kp h2)
      · exact .bor h4 e1 (RepL.step kp h5)
    dist := fun i j b n ⟨xs, hx⟩ ⟨ys, hy⟩ _ _ => by
      have g : ∀ {i : Nat} {xs : List D}, ((startE N ds)[i]? = some (some (.own xs)) ∨ (startE N ds)[i]? = some (some (.bor xs))) → ds[i]? = some (.bor xs) := by
        intro i xs hx
        rcases hx with hx | hx
        · obtain ⟨v, _, h2⟩ := r.get (startE_get hx)
          rcases h2 with h2 | ⟨_, _, _, _, h2, _⟩
          · exact h2.noOwn.elim
          · cases h2
        · exact startE_get hx
      exact n (r.two (g hx) (g hy))
    keep := fun b o h _ => h
    out := ho
    bo := hb
    held := fun p hp => by cases hp }
/-- what is given back of what was lent -/
def outs : List D → En → List (List D)
  | .bor _ :: _, some (.bor xs) :: _ => [xs]
  | .bor _ :: _, _ => []
  | _ :: ds, _ :: ρ => outs ds ρ
  | _, _ => []
theorem outs_get : ∀ {ds : List D} {ρ : En} {xs : List D}, outs ds ρ = [xs] → ∃ (i : Nat) (ys : List D), ds[i]? = some (D.bor ys) ∧ ρ[i]? = some (some (D.bor xs))
  | [], ρ, xs, h => by simp [outs] at h
  | d :: ds, [], xs, h => by cases d <;> simp [outs] at h
  | d :: ds, o :: ρ, xs, h => by
    cases d with
    | bor ys =>
      cases o with
      | none => simp [outs] at h
      | some z =>
        cases z with
        | bor zs => simp [outs] at h; subst h; exact ⟨0, ys, rfl, rfl⟩
        | _ => simp [outs] at h
    | _ =>
      obtain ⟨i, ys, h1, h2⟩ := outs_get (ds := ds) (ρ := ρ) (by simpa only [outs] using h)
      exact ⟨i + 1, ys, by simpa using h1, by simpa using h2⟩
theorem ret_of {σ : St} {ρ : En} {v : V} {H' : Hp} {d : D} (res : Res (fx0 K w cl H O ba) H' σ v d ρ) : ∃ t, Ret K w cl O H ba (outs ds ρ) v H' d t := by
  have ok := res.ok
  have sl : ∀ {F : Fx} {xs : List D}, F.B = (fun b => ba = some b) → Ok F H' σ ρ → outs ds ρ = [xs] → ∃ a us, ba = some a ∧ H' a = some (.lst us) ∧ F.L (Av F σ ρ) H' us xs := by
    intro F xs hB ok e
    obtain ⟨i, ys, h1, h2⟩ := outs_get e
    obtain ⟨v, _, h⟩ := ok.slot i _ h2
    cases h with
    | bor h b r => rw [hB] at b; exact ⟨_, _, b, h, r⟩
    | rep r => exact r.noBor.elim
  cases res with
  | rep ok r =>
    refine ⟨none, fun b o h n => ok.keep b o h n, ok.out, fun a xs ha e => ?_, fun _ => Rep.step (.weak fun b q => .inl q) r, fun a h => by cases h⟩
    obtain ⟨a', us, hb, h1, h2⟩ := sl rfl ok e
    rw [ha] at hb
    cases hb
    exact ⟨us, h1, RepL.step (.weak fun b q => by rcases q with q | q; exact .inl q; cases q) h2⟩
  | own ha h0 no nb nm ok' r =>
    rename_i a' us' ds'
    have wk : Kp (Av (Fx.out (fx0 K w cl H O ba) a') σ ρ) H' (orT O (some a')) H' := .weak fun b q => by
      rcases q with q | q
      · exact .inl (.inl q)
      · cases q; exact .inl (.inr rfl)
    refine ⟨some a', fun b o h n => ok.keep b o h n, ok.out, fun a xs ha e => ?_, fun h => (by cases h), fun a h => ?_⟩
    · obtain ⟨a2, us, hb, h1, h2⟩ := sl (F := (fx0 K w cl H O ba).out a') rfl ok' e
      rw [ha] at hb
      cases hb
      exact ⟨us, h1, RepL.step wk h2⟩
    · cases h
      exact ⟨_, _, rfl, rfl, h0, ha, RepL.step wk r⟩
end
/-! ### statements -/
structure DEnds where
  nx : En → Prop
  rt : D → En → Prop
  bk : En → Prop
  ct : En → Prop
def up (F : Fx) (N : En → Prop) : St → Hp → Prop := fun σ H => ∃ ρ, Ok F H σ ρ ∧ N ρ
def upR (F : Fx) (R : D → En → Prop) : VK := fun v H => ∃ σ d ρ, Res F H σ v d ρ ∧ R d ρ
def ends (F : Fx) (E : DEnds) : Ends := ⟨up F E.nx, upR F E.rt, up F E.bk, up F E.ct⟩
def DS (X : Cx) (F : Fx) (st : Stmt) (E : DEnds) (ρ : En) : Prop := ∀ σ H, Ok F H σ ρ → RS X st (ends F E) σ H
def DSs (X : Cx) (F : Fx) (sts : List Stmt) (E : DEnds) (ρ : En) : Prop := ∀ σ H, Ok F H σ ρ → RSs X sts (ends F E) σ H
/-- a target -/
def DG (X : Cx) (F : Fx) (tg : Expr) (d : D) (ρ : En) (N : En → Prop) : Prop := ∀ σ H v, Ok F H σ ρ → F.R (Av F σ ρ) H v d → RG X tg v σ H fun σ' H' => ∃ ρ', Ok F H' σ' ρ' ∧ Kp (Av F σ ρ) H (Av F σ' ρ') H' ∧ N ρ'
def DGs (X : Cx) (F : Fx) (tg : List Expr) (ds : List D) (ρ : En) (N : En → Prop) : Prop := ∀ σ H vs, Ok F H σ ρ → F.L (Av F σ ρ) H vs ds → RGs X tg vs σ H fun σ' H' => ∃ ρ', Ok F H' σ' ρ' ∧ Kp (Av F σ ρ) H (Av F σ' ρ') H' ∧ N ρ'
section
variable {X : Cx} {F : Fx} {e a b c o : Expr} {es : List Expr} {st : Stmt} {sts rest A B : List Stmt} {ρ ρ' ρ1 : En} {σ : St} {H H' : Hp} {pos p pos' : Pos} {x : Str} {d : D} {v u : V} {i j : Int} {nx bk ct : En → Prop} {rt' : D → En → Prop} {E : DEnds}
theorem rsx_mono {R E : Ends} (h : RSs X sts R σ H) (h1 : ∀ σ H, R.nx σ H → E.nx σ H) (h2 : ∀ v H, R.rt v H → E.rt v H) (h3 : ∀ σ H, R.bk σ H → E.bk σ H) (h4 : ∀ σ H, R.ct σ H → E.ct σ H) : RSs X sts E σ H := fun pins s I => thn (h pins s I) fun f s' q => by
  cases f with
  | next => obtain ⟨σ', H', I', q⟩ := q; exact ⟨σ', H', I', h1 _ _ q⟩
  | brk => obtain ⟨σ', H', I', q⟩ := q; exact ⟨σ', H', I', h3 _ _ q⟩
  | cont => obtain ⟨σ', H', I', q⟩ := q; exact ⟨σ', H', I', h4 _ _ q⟩
  | ret u => obtain ⟨σ', v, H', I', r, q⟩ := q; exact ⟨σ', v, H', I', r, h2 _ _ q⟩
theorem ds_nil (q : E.nx ρ) : DSs X F [] E ρ := fun σ H ok => ss_nil ⟨ρ, ok, q⟩
theorem ds_cons (q : DS X F st ⟨fun ρ1 => DSs X F rest E ρ1, E.rt, E.bk, E.ct⟩ ρ) : DSs X F (st :: rest) E ρ := fun σ H ok => by
  refine ss_cons ?_
  have h := q σ H ok
  refine fun pins s I => thn (h pins s I) fun f s' q => ?_
  cases f with
  | next => obtain ⟨σ', H', I', ρ1, ok1, q⟩ := q; exact ⟨σ', H', I', q σ' H' ok1⟩
  | brk => exact q
  | cont => exact q
  | ret u => exact q
theorem ds_pass (q : E.nx ρ) : DS X F (.Pass pos) E ρ := fun σ H ok => s_pass ⟨ρ, ok, q⟩
theorem ds_break (q : E.bk ρ) : DS X F (.Break pos) E ρ := fun σ H ok => s_break ⟨ρ, ok, q⟩
theorem ds_continue (q : E.ct ρ) : DS X F (.Continue pos) E ρ := fun σ H ok => s_continue ⟨ρ, ok, q⟩
theorem ds_expr (hs : swapsWith e none pos.line X.env = pure false) (q : DE X F e ρ fun _ ρ1 => E.nx ρ1) : DS X F (.Expr e pos) E ρ := fun σ H ok => s_expr hs (de_run q ok fun v H1 x ρ1 ok1 r1 k1 q1 => ⟨ρ1, ok1, q1⟩)
theorem ds_ret (q : DE X F e ρ E.rt) : DS X F (.Return (some e) pos) E ρ := fun σ H ok => s_ret (re_mono (q σ H ok) fun v H1 ⟨d, ρ1, r, k, q⟩ => ⟨σ, d, ρ1, r, q⟩)
theorem ds_retN (q : E.rt .non ρ) : DS X F (.Return none pos) E ρ := fun σ H ok => s_retN ⟨σ, .non, ρ, .rep ok .non, q⟩
theorem ds_if (q : DT X F c ρ fun k ρ1 => if k = true then DSs X F A E ρ1 else DSs X F B E ρ1) : DS X F (.If c A B pos) E ρ := fun σ H ok => s_if (dt_run q ok fun k H1 ρ1 ok1 k1 q1 => by
  cases k with
  | true => exact iteT ((show DSs X F A E ρ1 from q1) σ H1 ok1)
  | false => exact iteF ((show DSs X F B E ρ1 from q1) σ H1 ok1))
/-- x = e, a value that stays -/
theorem ds_set (hN : X.N.Nodup) (hi : X.N.contains x = true) (hx : Loc X.env.scope x) (hf : X.fn x = true ∨ X.env.scope.names.lookup x = some .local) (hs : swapsWith e (some (.Name x pos')) pos.line X.env = pure false)
    (q : DE X F e ρ fun d ρ1 => E.nx (setE X.N ρ1 x (some d.fz))) : DS X F (.Assign [.Name x pos'] e pos) E ρ := fun σ H ok => by
  obtain ⟨i, h⟩ := idx_of hi
  refine s_set (σ' := σ) hN hi hx hf hs (de_run q ok fun v H1 x1 ρ1 ok1 r1 k1 q1 => ?_)
  rw [setE_eq h hN] at q1
  rw [setN_eq h hN]
  exact ⟨_, ok1.set r1, q1⟩
/-- x = e, a list of its own -/
theorem ds_own (hN : X.N.Nodup) (hi : X.N.contains x = true) (hx : Loc X.env.scope x) (hf : X.fn x = true ∨ X.env.scope.names.lookup x = some .local) (hs : swapsWith e (some (.Name x pos')) pos.line X.env = pure false)
    (q : DE X F e ρ fun d ρ1 => ∃ ds, d = .own ds ∧ E.nx (setE X.N ρ1 x (some (.own ds)))) : DS X F (.Assign [.Name x pos'] e pos) E ρ := fun σ H ok => by
  obtain ⟨i, h⟩ := idx_of hi
  refine s_set (σ' := σ) hN hi hx hf hs (re_mono (q σ H ok) fun v H1 ⟨d, ρ1, r, k, ds, hd, q⟩ => ?_)
  subst hd
  rw [setE_eq h hN] at q
  rw [setN_eq h hN]
  cases r with
  | rep ok r => exact r.noOwn.elim
  | own ha h0 no nb nm ok1 r => exact ⟨_, ok1.setOwn ha h0 no nb nm r, q⟩
/-- targets -/
theorem ds_asg {tg : Expr} (hs : swapsWithSole [tg] e pos.line X.env = pure false) (hw : swappedStores [tg] e X.env = pure none) (h1 : (assignEach [tg] X.env).map (·.2) = [assign tg X.env])
    (q : DE X F e ρ fun d ρ1 => DG X F tg d.fz ρ1 E.nx) : DS X F (.Assign [tg] e pos) E ρ := fun σ H ok => s_asg hs hw h1 (de_run q ok fun v H1 x1 ρ1 ok1 r1 k1 q1 => by
  refine fun pins s u I r => thn (q1 σ H1 v ok1 r1 pins s u I r) fun _ s' ⟨σ', H', I', ρ', ok', _, q⟩ => ⟨σ', H', I', ρ', ok', q⟩)
theorem rg_mono {tg : Expr} {R Q : St → Hp → Prop} (h : RG X tg v σ H R) (k : ∀ σ H, R σ H → Q σ H) : RG X tg v σ H Q := fun pins s u I r => thn (h pins s u I r) fun _ s' ⟨σ', H', I', q⟩ => ⟨σ', H', I', k _ _ q⟩
theorem rgs_mono {tg : List Expr} {vs : List V} {R Q : St → Hp → Prop} (h : RGs X tg vs σ H R) (k : ∀ σ H, R σ H → Q σ H) : RGs X tg vs σ H Q := fun pins s u I r => thn (h pins s u I r) fun _ s' ⟨σ', H', I', q⟩ => ⟨σ', H', I', k _ _ q⟩
theorem Kp.set {k : Nat} (r : F.R (Av F σ ρ) H v d) : Kp (Av F σ ρ) H (Av F (σ.set k (some v)) (ρ.set k (some d))) H := .weak fun b q => by
  rcases q with q | ⟨j, m, e⟩
  · exact .inl q
  · rcases isM_set m with ⟨_, ds, h⟩ | ⟨n, m⟩
    · rcases h with h | h
      · cases h; exact r.noOwn.elim
      · cases h; exact r.noBor.elim
    · rw [List.getElem?_set_ne (fun q => n q.symm)] at e
      exact .inr ⟨j, m, e⟩
theorem dg_name {N : En → Prop} (hN : X.N.Nodup) (hi : X.N.contains x = true) (hx : Loc X.env.scope x) (hf : X.fn x = true ∨ X.env.scope.names.lookup x = some .local) (q : N (setE X.N ρ x (some d))) : DG X F (.Name x pos) d ρ N := fun σ H v ok r => by
  obtain ⟨i, h⟩ := idx_of hi
  refine g_name hN hi hx hf ?_
  rw [setE_eq h hN] at q
  rw [setN_eq h hN]
  exact ⟨_, ok.set r, Kp.set r, q⟩
theorem dgs_nil {N : En → Prop} (q : N ρ) : DGs X F [] [] ρ N := fun σ H vs ok r => by
  cases r
  exact gs_nil ⟨ρ, ok, .refl, q⟩
theorem dgs_cons {N : En → Prop} {ds : List D} (hs : (assignEach (e :: es) X.env).map (·.2) = assign e X.env :: (assignEach es X.env).map (·.2)) (q : DG X F e d ρ fun ρ1 => DGs X F es ds ρ1 N) : DGs X F (e :: es) (d :: ds) ρ N := fun σ H vs ok r => by
  cases r with
  | cons r t => exact gs_cons hs (rg_mono (q σ H _ ok r) fun σ1 H1 ⟨ρ1, ok1, k1, q1⟩ => rgs_mono (q1 σ1 H1 _ ok1 (t.step k1)) fun σ2 H2 ⟨ρ2, ok2, k2, q2⟩ => ⟨ρ2, ok2, k1.trans k2, q2⟩)
theorem dg_tup {N : En → Prop} {k n : Nat} {ds : List D} [f : Fit X F] (hc : X.calm = true) (hn : (assignEach es X.env).length = n) (hst : (assignEach es X.env).findIdx? (·.1) = none) (hl : ds.length = n) (q : DGs X F es ds ρ N) : DG X F (.Tuple es k pos) (.tup ds) ρ N := fun σ H v ok r => by
  obtain ⟨a, xs, rfl, hx, r⟩ := r.tupRef
  exact g_tup hc hn hst (by rw [← f.K]; exact hx) (by rw [r.len]; exact hl) (q σ H xs ok r)
/-- the list in a slot gets other items -/
theorem Ok.putM {k : Nat} {a : Addr} {us : List V} {ds ds' : List D} (ok : Ok F H σ ρ) (hk : ρ[k]? = some (some (.own ds)) ∨ ρ[k]? = some (some (.bor ds))) (hσ : σ[k]? = some (some (.ref a))) (r : F.L (Av F σ ρ) H us ds') (ρ' : En)
    (hρ : (ρ[k]? = some (some (.own ds)) ∧ ρ' = ρ.set k (some (.own ds'))) ∨ (ρ[k]? = some (some (.bor ds)) ∧ ρ' = ρ.set k (some (.bor ds')))) : Ok F (upd H a (.lst us)) σ ρ' ∧ Kp (Mut σ ρ) H (Mut σ ρ') (upd H a (.lst us)) := by
  have isM : ∀ j, IsM ρ' j → IsM ρ j := by
    intro j m
    rcases hρ with ⟨h, rfl⟩ | ⟨h, rfl⟩
    · rcases isM_set m with ⟨rfl, _, _⟩ | ⟨_, m⟩
      · exact ⟨ds, .inl h⟩
      · exact m
    · rcases isM_set m with ⟨rfl, _, _⟩ | ⟨_, m⟩
      · exact ⟨ds, .inr h⟩
      · exact m
  have mM : Mut σ ρ a := ⟨k, ⟨ds, hk⟩, hσ⟩
  have kp : Kp (Mut σ ρ) H (Mut σ ρ') (upd H a (.lst us)) := ⟨fun b o h n => by
    rw [upd_ne (fun e => n (by rw [e]; exact mM))]; exact h, fun b o h n ⟨j, m, e⟩ => n ⟨j, isM j m, e⟩⟩
  have kpA : Kp (Av F σ ρ) H (Av F σ ρ') (upd H a (.lst us)) := kp.mut
  refine ⟨?_, kp⟩
  have hsl : ∃ vs, H a = some (.lst vs) := ok.mut mM
  exact {
    len := by rcases hρ with ⟨_, rfl⟩ | ⟨_, rfl⟩ <;> (rw [List.length_set]; exact ok.len)
    slot := fun j x hx => by
      by_cases e : k = j
      · subst e
        have old : ∃ o, ρ[k]? = some (some o) ∧ Slot F (Av F σ ρ) H (.ref a) o := by
          rcases hk with h | h <;> (obtain ⟨v, e1, e2⟩ := ok.slot k _ h; rw [hσ] at e1; cases e1; exact ⟨_, h, e2⟩)
        obtain ⟨o, ho, sl⟩ := old
        rcases hρ with ⟨h, rfl⟩ | ⟨h, rfl⟩
        · rw [List.getElem?_set] at hx
          simp at hx
          obtain ⟨_, rfl⟩ := hx
          rw [h] at ho
          cases ho
          cases sl with
          | own h1 n o r1 => exact ⟨_, hσ, .own upd_same n o (RepL.step kpA r)⟩
          | rep r1 => exact r1.noOwn.elim
        · rw [List.getElem?_set] at hx
          simp at hx
          obtain ⟨_, rfl⟩ := hx
          rw [h] at ho
          cases ho
          cases sl with
          | bor h1 n r1 => exact ⟨_, hσ, .bor upd_same n (RepL.step kpA r)⟩
          | rep r1 => exact r1.noBor.elim
      · have hx' : ρ[j]? = some (some x) := by
          rcases hρ with ⟨_, rfl⟩ | ⟨_, rfl⟩ <;> (rw [List.getElem?_set_ne e] at hx; exact hx)
        obtain ⟨v, e1, e2⟩ := ok.slot j x hx'
        refine ⟨v, e1, e2.step kpA fun b vs hv m h => ?_⟩
        subst hv
        have hne : b ≠ a := by
          intro q
          subst q
          refine ok.dist k j b e ⟨ds, hk⟩ ?_ hσ e1
          rcases m with ⟨zs, rfl⟩ | ⟨zs, rfl⟩
          · exact ⟨zs, .inl hx'⟩
          · exact ⟨zs, .inr hx'⟩
        rw [upd_ne hne]
        exact h
    dist := fun i j b n m1 m2 e1 e2 => ok.dist i j b n (isM i m1) (isM j m2) e1 e2
    keep := fun b o h n => by
      have hne : b ≠ a := by
        intro q
        subst q
        rcases hk with hk | hk
        · obtain ⟨v, e1, e2⟩ := ok.slot k _ hk
          rw [hσ] at e1
          cases e1
          cases e2 with
          | own _ n0 _ _ => rw [n0] at h; cases h
          | rep r => exact r.noOwn
        · obtain ⟨v, e1, e2⟩ := ok.slot k _ hk
          rw [hσ] at e1
          cases e1
          cases e2 with
          | bor _ b _ => exact n b
          | rep r => exact r.noBor
      rw [upd_ne hne]
      exact ok.keep b o h n
    out := fun b h => by
      obtain ⟨o, e, c⟩ := ok.out b h
      by_cases q : b = a
      · subst q; exact ⟨_, upd_same, rfl⟩
      · exact ⟨o, by rw [upd_ne q]; exact e, c⟩
    bo := ok.bo
    held := fun p hp => p.st _ _ _ _ (ok.held p hp) kpA }
/-- the same kind of list with other items -/
def D.put : D → List D → D
  | .own _, ds => .own ds
  | .bor _, ds => .bor ds
  | d, _ => d
theorem Ok.put {k : Nat} {d0 : D} {ds : List D} (ok : Ok F H σ ρ) (hk : ρ[k]? = some (some d0)) (hm : d0.mutIs = some ds) : ∃ a us, σ[k]? = some (some (.ref a)) ∧ H a = some (.lst us) ∧ F.L (Av F σ ρ) H us ds ∧
    ∀ us' ds', F.L (Av F σ ρ) H us' ds' → Ok F (upd H a (.lst us')) σ (ρ.set k (some (d0.put ds'))) ∧ Kp (Mut σ ρ) H (Mut σ (ρ.set k (some (d0.put ds')))) (upd H a (.lst us')) := by
  obtain ⟨v, e1, e2⟩ := ok.slot k d0 hk
  cases d0 with
  | own xs =>
    cases hm
    cases e2 with
    | own h n o r => exact ⟨_, _, e1, h, r, fun us' ds' r' => ok.putM (.inl hk) e1 r' _ (.inl ⟨hk, rfl⟩)⟩
    | rep r => exact r.noOwn.elim
  | bor xs =>
    cases hm
    cases e2 with
    | bor h n r => exact ⟨_, _, e1, h, r, fun us' ds' r' => ok.putM (.inr hk) e1 r' _ (.inr ⟨hk, rfl⟩)⟩
    | rep r => exact r.noBor.elim
  | _ => cases hm
end
end Dx

end
section -- Dh
set_option maxRecDepth 100000
set_option maxHeartbeats 4000000
/-! Lists that change, calls, loops, comprehensions. -/
namespace Dx
open PySem PySem.Spec L2 Sx
open PyProof.Rows hiding St

section
variable {X : Cx} {F : Fx} {e a b c o : Expr} {es : List Expr} {st : Stmt} {sts rest A B body : List Stmt} {ρ ρ' ρ1 : En} {σ : St} {H H' : Hp} {pos p pos' apos np : Pos} {x : Str} {d d0 : D} {v u : V} {i j : Int} {E : DEnds} {Q : DQ}
theorem slot_ix {N : List Str} {ρ ρ2 : En} {d0 d1 : D} (hN : N.Nodup) (h : (N.zip ρ).lookup x = some (some d0)) (g : (N.zip ρ2).lookup x = some (some d1)) : ∃ k : Nat, N[k]? = some x ∧ ρ[k]? = some (some d0) ∧ ρ2[k]? = some (some d1) := by
  obtain ⟨k, h1, h2⟩ := look_en h
  obtain ⟨k', h1', h2'⟩ := look_en g
  have ek : k = k' := by
    obtain ⟨l1, e1⟩ := List.getElem?_eq_some_iff.mp h1
    obtain ⟨l2, e2⟩ := List.getElem?_eq_some_iff.mp h1'
    exact (List.getElem_inj hN).mp (e1.trans e2.symm)
  subst ek
  exact ⟨k, h1, h2, h2'⟩
/-- x[e] = .. of a list of one's own -/
theorem dg_sub {N : En → Prop} (hN : X.N.Nodup) (ha : ∀ y, assign (.Subscript (.Name x np) a pos) X.env y = (do let z ← holding [y] (eval (.Name x np) X.env); let i ← holding [y, z] (eval a X.env); standAt pos; holding [y, z, i] (setItem z i y); release [y, z, i] []))
    (h : (X.N.zip ρ).lookup x = some (some d0)) (hv : Vis X.env.scope x) (hd : (x == ("__debug__" : Str)) = false) (hcd : (x == ("__classdict__" : Str)) = false)
    (q : DE X F a ρ fun y ρ1 => ∃ i k d1 ds, y = .int i ∧ (X.N.zip ρ1).lookup x = some (some d1) ∧ d1.mutIs = some ds ∧ ixN ds.length i = some k ∧ N (setE X.N ρ1 x (some (d1.put (ds.set k d))))) : DG X F (.Subscript (.Name x np) a pos) d ρ N := fun σ H v ok r => by
  obtain ⟨i0, h1, h2⟩ := look_en h
  obtain ⟨w0, h3, h4⟩ := ok.slot i0 d0 h2
  refine g_sub ha (re_of (pe_var h1 hv hd hcd) ⟨w0, h3, ?_⟩)
  refine de_run q ok fun u H2 y ρ2 ok2 r2 k2 ⟨i, k, d1, ds, hy, g1, g2, g3, q⟩ => ?_
  subst hy
  obtain ⟨k0, m1, m2, m3⟩ := slot_ix hN h g1
  have e0 : i0 = k0 := by
    obtain ⟨l1, e1⟩ := List.getElem?_eq_some_iff.mp h1
    obtain ⟨l2, e2⟩ := List.getElem?_eq_some_iff.mp m1
    exact (List.getElem_inj hN).mp (e1.trans e2.symm)
  subst e0
  obtain ⟨aa, us, s1, s2, s3, s4⟩ := ok2.put m3 g2
  rw [h3] at s1
  cases s1
  rw [r2.intV]
  rw [setE_eq h1 hN] at q
  have sv := r.step k2.mut
  have hl := s3.len
  obtain ⟨o1, o2⟩ := s4 _ _ (s3.set k sv)
  exact set_lst s2 (by rw [hl]; exact g3) ⟨_, o1, k2.mut.trans o2.mut, q⟩
/-- x.append(e) -/
theorem d_append (hN : X.N.Nodup) (hab : attributeBase (.Name x np) "append" X.env (eval (.Name x np) X.env) = eval (.Name x np) X.env)
    (g2 : (((((backTo pos (starEach [e] X.env)).all fun x => !x.1) && (backToKw pos (keywordEach [] X.env)).all fun x => x.1.isSome) && decide (([e].length + ([] : List Keyword).length + if ([] : List Keyword).isEmpty = true then 0 else 1) < 30)) = true)) (g3 : (apos.endLine == pos.line) = true) (g4 : starEach [e] X.env = (false, eval e X.env) :: starEach [] X.env) (g5 : (backTo pos (starEach [] X.env)).any (·.1) = false)
    (h : (X.N.zip ρ).lookup x = some (some d0)) (hm : d0.mutIs.isSome = true) (hv : Vis X.env.scope x) (hd : (x == ("__debug__" : Str)) = false) (hcd : (x == ("__classdict__" : Str)) = false)
    (q : DE X F e ρ fun y ρ1 => ∃ d1 ds, (X.N.zip ρ1).lookup x = some (some d1) ∧ d1.mutIs = some ds ∧ ds.length < sizeLine ∧ Q .non (setE X.N ρ1 x (some (d1.put (ds ++ [y.fz]))))) : DE X F (.Call (.Attribute (.Name x np) "append" apos) [e] [] pos) ρ Q := fun σ H ok => by
  obtain ⟨i0, h1, h2⟩ := look_en h
  obtain ⟨ds0, hm⟩ := Option.isSome_iff_exists.mp hm
  obtain ⟨aa, us, s1, s2, s3, _⟩ := ok.put h2 hm
  refine e_append hab g2 g3 g4 g5 (re_of (pe_var h1 hv hd hcd) ⟨_, s1, aa, us, rfl, s2, ?_⟩)
  refine a_cons g4 (de_run q ok fun u H2 y ρ2 ok2 r2 k2 ⟨d1, ds, f1, f2, f3, q⟩ => a_nil ?_)
  obtain ⟨k0, m1, m2, m3⟩ := slot_ix hN h f1
  have e0 : i0 = k0 := by
    obtain ⟨l1, e1⟩ := List.getElem?_eq_some_iff.mp h1
    obtain ⟨l2, e2⟩ := List.getElem?_eq_some_iff.mp m1
    exact (List.getElem_inj hN).mp (e1.trans e2.symm)
  subst e0
  obtain ⟨aa', us', t1, t2, t3, t4⟩ := ok2.put m3 f2
  rw [s1] at t1
  cases t1
  rw [setE_eq h1 hN] at q
  obtain ⟨o1, o2⟩ := t4 _ _ (t3.app (.cons r2 .nil))
  exact ⟨u, us', rfl, t2, by rw [t3.len]; exact f3, .non, _, .rep o1 .non, k2.trans o2, q⟩
/-- x.pop(e) -/
theorem d_popAt (hN : X.N.Nodup) (hab : attributeBase (.Name x np) "pop" X.env (eval (.Name x np) X.env) = eval (.Name x np) X.env)
    (g2 : (((((backTo pos (starEach [e] X.env)).all fun x => !x.1) && (backToKw pos (keywordEach [] X.env)).all fun x => x.1.isSome) && decide (([e].length + ([] : List Keyword).length + if ([] : List Keyword).isEmpty = true then 0 else 1) < 30)) = true)) (g3 : (apos.endLine == pos.line) = true) (g4 : starEach [e] X.env = (false, eval e X.env) :: starEach [] X.env) (g5 : (backTo pos (starEach [] X.env)).any (·.1) = false)
    (h : (X.N.zip ρ).lookup x = some (some d0)) (hm : d0.mutIs.isSome = true) (hv : Vis X.env.scope x) (hd : (x == ("__debug__" : Str)) = false) (hcd : (x == ("__classdict__" : Str)) = false)
    (q : DE X F e ρ fun y ρ1 => ∃ (i : Int) (k : Nat) (d1 : D) (ds : List D) (z : D), y = .int i ∧ (X.N.zip ρ1).lookup x = some (some d1) ∧ d1.mutIs = some ds ∧ -(2 ^ 63) ≤ i ∧ i < 2 ^ 63 ∧ seqIndex? i ds.length = some k ∧ ds[k]? = some z ∧ Q z (setE X.N ρ1 x (some (d1.put (ds.eraseIdx k))))) : DE X F (.Call (.Attribute (.Name x np) "pop" apos) [e] [] pos) ρ Q := fun σ H ok => by
  obtain ⟨i0, h1, h2⟩ := look_en h
  obtain ⟨ds0, hm⟩ := Option.isSome_iff_exists.mp hm
  obtain ⟨aa, us, s1, s2, s3, _⟩ := ok.put h2 hm
  refine re_of (pe_bm PySem.F.plainAttrs_list PySem.F.slot_list_pop PySem.F.type_list_pop mt_popAt (re (.Name x np)) (ra [e]) hab g2 g3 g4 g5) ?_
  refine re_of (pe_var h1 hv hd hcd) ⟨_, s1, .inl ⟨rfl, us, SqL.of s2⟩, ?_⟩
  refine a_cons g4 (de_run q ok fun u H2 y ρ2 ok2 r2 k2 ⟨i, k, d1, ds, z, hy, f1, f2, f3, f4, f5, f6, q⟩ => a_nil ?_)
  subst hy
  obtain ⟨k0, m1, m2, m3⟩ := slot_ix hN h f1
  have e0 : i0 = k0 := by
    obtain ⟨l1, e1⟩ := List.getElem?_eq_some_iff.mp h1
    obtain ⟨l2, e2⟩ := List.getElem?_eq_some_iff.mp m1
    exact (List.getElem_inj hN).mp (e1.trans e2.symm)
  subst e0
  obtain ⟨aa', us', t1, t2, t3, t4⟩ := ok2.put m3 f2
  rw [s1] at t1
  cases t1
  rw [setE_eq h1 hN] at q
  have er : ∀ {us : List V} {ds : List D} (k : Nat), F.L (Av F σ ρ2) H2 us ds → F.L (Av F σ ρ2) H2 (us.eraseIdx k) (ds.eraseIdx k) := by
    intro us ds k r
    induction r using RepL.rec (motive_1 := fun _ _ _ => True) generalizing k with
    | nil => exact .nil
    | cons r t _ ih => cases k with
      | zero => exact t
      | succ k => exact .cons r (ih k)
    | _ => trivial
  obtain ⟨o1, o2⟩ := t4 _ _ (er k t3)
  obtain ⟨vz, w1, w2⟩ := t3.get f6
  have hkl : k < us'.length := (List.getElem?_eq_some_iff.mp w1).1
  refine ⟨_, us', i, k, vz, rfl, by rw [r2.intV], t2, f3, f4, by rw [t3.len]; exact f5, w1, z, _, .rep o1 ?_, k2.trans o2, q⟩
  exact Rep.step o2.mut w2
/-! ### calls of defs -/
inductive Bnd (ρ : En) : List Ag → List D → Option Nat → Prop where
  | nil : Bnd ρ [] [] none
  | d {x : D} {as : List Ag} {ds : List D} {l : Option Nat} (t : Bnd ρ as ds l) : Bnd ρ (.d x :: as) (x :: ds) l
  | plain {i : Nat} {d : D} {as : List Ag} {ds : List D} {l : Option Nat} (h : ρ[i]? = some (some d)) (p : d.plain = true) (t : Bnd ρ as ds l) : Bnd ρ (.len i :: as) (d :: ds) l
  | lend {i : Nat} {d : D} {xs : List D} {as : List Ag} {ds : List D} (h : ρ[i]? = some (some d)) (p : d.mutIs = some xs) (t : Bnd ρ as ds none) : Bnd ρ (.len i :: as) (.bor xs :: ds) (some i)
def putOut (ρ : En) (l : Option Nat) (outs : List (List D)) : En :=
  match l, outs with
  | none, _ => ρ
  | some i, [xs] => match ρ[i]? with
    | some (some d0) => ρ.set i (some (d0.put xs))
    | _ => ρ
  | some i, _ => ρ.set i none
theorem isM_of {xs : List D} {k : Nat} (h : ρ[k]? = some (some d0)) (p : d0.mutIs = some xs) : IsM ρ k := by
  cases d0 with
  | own ys => exact ⟨ys, .inl h⟩
  | bor ys => exact ⟨ys, .inr h⟩
  | _ => cases p
theorem Bnd.args (ok : Ok F H σ ρ) : ∀ {vs : List V} {as : List Ag} {ds : List D} {l : Option Nat}, AgsP F σ ρ H vs as → Bnd ρ as ds l →
    ∃ ba, ArgsR F.K F.w F.cl (Av F σ ρ) H ba vs ds ∧ (l = none → ba = none) ∧ (∀ i, l = some i → ∃ a d0 xs, ba = some a ∧ ρ[i]? = some (some d0) ∧ d0.mutIs = some xs ∧ σ[i]? = some (some (.ref a)))
  | _, _, _, _, .nil, .nil => ⟨none, .nil, fun _ => rfl, fun i h => by cases h⟩
  | _, _, _, _, .d r t, .d b => by
    obtain ⟨ba, h1, h2, h3⟩ := Bnd.args ok t b
    exact ⟨ba, .rep r h1, h2, h3⟩
  | _, _, _, _, .len e t, .plain h p b => by
    obtain ⟨ba, h1, h2, h3⟩ := Bnd.args ok t b
    obtain ⟨v, e1, e2⟩ := ok.slot _ _ h
    rw [e] at e1
    cases e1
    exact ⟨ba, .rep (e2.plain p) h1, h2, h3⟩
  | _, _, _, _, .len e t, .lend h p b => by
    obtain ⟨ba, h1, h2, h3⟩ := Bnd.args ok t b
    rw [h2 rfl] at h1
    obtain ⟨aa, us, s1, s2, s3, s4⟩ := ok.put h p
    rw [e] at s1
    cases s1
    refine ⟨some aa, .bor (.inr ⟨_, isM_of h p, e⟩) s2 s3 h1, (by intro h; cases h), fun i hi => ?_⟩
    cases hi
    exact ⟨aa, _, _, rfl, h, p, e⟩
/-- behind a call, where nothing was lent or a slot's list -/
theorem ret_res {ba : Option Addr} {l : Option Nat} {outs : List (List D)} {t : Option Addr} (ok : Ok F H σ ρ) (hn : l = none → ba = none) (hs : ∀ i, l = some i → ∃ a d0 xs, ba = some a ∧ ρ[i]? = some (some d0) ∧ d0.mutIs = some xs ∧ σ[i]? = some (some (.ref a)))
    (R : Ret F.K F.w F.cl (Av F σ ρ) H ba outs v H' d t) : Res F H' σ v d (putOut ρ l outs) ∧ Kp (Mut σ ρ) H (Mut σ (putOut ρ l outs)) H' := by
  -- which slots may change behind
  have hM : ∀ j, IsM (putOut ρ l outs) j → IsM ρ j := by
    intro j m
    cases l with
    | none => exact m
    | some i =>
      obtain ⟨a, d0, xs, _, h1, h2, _⟩ := hs i rfl
      have m0 : IsM ρ i := by
        cases d0 with
        | own ys => exact ⟨ys, .inl h1⟩
        | bor ys => exact ⟨ys, .inr h1⟩
        | _ => cases h2
      have hset : ∀ d', IsM (ρ.set i d') j → IsM ρ j := by
        intro d' m
        rcases isM_set m with ⟨rfl, _⟩ | ⟨_, m⟩
        · exact m0
        · exact m
      unfold putOut at m
      match outs, m with
      | [], m => exact hset _ m
      | [ys], m => simp only [h1] at m; exact hset _ m
      | _ :: _ :: _, m => exact hset _ m
  have hMut : ∀ b, Mut σ (putOut ρ l outs) b → Mut σ ρ b := fun b ⟨j, m, e⟩ => ⟨j, hM j m, e⟩
  have hba : ∀ b, ba = some b → Mut σ ρ b := by
    intro b hb
    cases l with
    | none => rw [hn rfl] at hb; cases hb
    | some i =>
      obtain ⟨a, d0, xs, ha, h1, h2, h3⟩ := hs i rfl
      rw [ha] at hb
      cases hb
      refine ⟨i, ?_, h3⟩
      cases d0 with
      | own ys => exact ⟨ys, .inl h1⟩
      | bor ys => exact ⟨ys, .inr h1⟩
      | _ => cases h2
  have kp : Kp (Mut σ ρ) H (Mut σ (putOut ρ l outs)) H' := ⟨fun b o h n => R.keep b o h fun e => n (hba b e), fun b o h n m => n (hMut b m)⟩
  refine ⟨?_, kp⟩
  have tn : ∀ a, t = some a → H a = none := fun a h => by obtain ⟨_, _, _, _, h, _⟩ := R.new a h; exact h
  -- the frame behind, with the new list not to be met
  have key : ∀ (F' : Fx), Like F' F → F'.held = F.held → (∀ b, F'.Out b ↔ (F.Out b ∨ t = some b)) → (∀ b, t = some b → Ch H' b) → Ok F' H' σ (putOut ρ l outs) := by
    intro F' L hh hO ht
    have kpF : Kp (Av F σ ρ) H (Av F' σ (putOut ρ l outs)) H' := ⟨fun b o h n => kp.keep b o h fun m => n (.inr m), fun b o h n q => by
      rcases q with q | q
      · rcases (hO b).mp q with q | q
        · exact n (.inl q)
        · rw [tn b q] at h; cases h
      · exact n (.inr (hMut b q))⟩
    have wk : Kp (orT (Av F σ ρ) t) H' (Av F' σ (putOut ρ l outs)) H' := .weak fun b q => by
      rcases q with q | q
      · rcases (hO b).mp q with q | q
        · exact .inl (.inl q)
        · exact .inr q
      · exact .inl (.inr (hMut b q))
    -- an unchanged slot
    have same : ∀ j x, ρ[j]? = some (some x) → (∀ i, l = some i → j ≠ i) → ∃ v, σ[j]? = some (some v) ∧ Slot F' (Av F' σ (putOut ρ l outs)) H' v x := by
      intro j x hx hj
      obtain ⟨w, e1, e2⟩ := ok.slot j x hx
      have nb : ∀ b, w = .ref b → ((∃ ds, x = .own ds) ∨ ∃ ds, x = .bor ds) → ba ≠ some b := by
        intro b hw m hb
        subst hw
        cases l with
        | none => rw [hn rfl] at hb; cases hb
        | some i =>
          obtain ⟨a, d0, xs, ha, h1, h2, h3⟩ := hs i rfl
          rw [ha] at hb
          cases hb
          refine ok.dist j i b (hj i rfl) ?_ ?_ e1 h3
          · rcases m with ⟨ds, rfl⟩ | ⟨ds, rfl⟩
            · exact ⟨ds, .inl hx⟩
            · exact ⟨ds, .inr hx⟩
          · cases d0 with
            | own ys => exact ⟨ys, .inl h1⟩
            | bor ys => exact ⟨ys, .inr h1⟩
            | _ => cases h2
      refine ⟨w, e1, ?_⟩
      cases e2 with
      | own h n o r => exact .own (R.keep _ _ h (nb _ rfl (.inl ⟨_, rfl⟩))) (by rw [L.H0]; exact n) (fun q => by
          rcases (hO _).mp q with q | q
          · exact o q
          · rw [tn _ q] at h; cases h) (L.L (RepL.step kpF r))
      | bor h n r => exact .bor (R.keep _ _ h (nb _ rfl (.inr ⟨_, rfl⟩))) (by rw [L.B]; exact n) (L.L (RepL.step kpF r))
      | rep r => exact .rep (L.R (Rep.step kpF r))
    refine { len := ?_, slot := ?_, dist := fun i j b n m1 m2 e1 e2 => ok.dist i j b n (hM i m1) (hM j m2) e1 e2, keep := ?_, out := ?_, bo := ?_, held := ?_ }
    · unfold putOut
      split
      · exact ok.len
      · split
        · rw [List.length_set]; exact ok.len
        · exact ok.len
      · rw [List.length_set]; exact ok.len
    · intro j x hx
      cases l with
      | none => exact same j x hx (fun i h => by cases h)
      | some i =>
        obtain ⟨a, d0, xs, ha, h1, h2, h3⟩ := hs i rfl
        have hset : ∀ d', ((ρ.set i d')[j]? = some (some x)) → (j ≠ i ∧ ρ[j]? = some (some x)) ∨ (j = i ∧ d' = some x) := by
          intro d' h
          by_cases e : i = j
          · subst e
            rw [List.getElem?_set] at h
            simp at h
            exact .inr ⟨rfl, h.2⟩
          · rw [List.getElem?_set_ne e] at h
            exact .inl ⟨fun q => e q.symm, h⟩
        match outs, R.out a, hx with
        | [], _, hx =>
          rcases hset _ hx with ⟨n, h⟩ | ⟨_, h⟩
          · exact same j x h fun k hk => by cases hk; exact n
          · cases h
        | _ :: _ :: _, _, hx =>
          rcases hset _ hx with ⟨n, h⟩ | ⟨_, h⟩
          · exact same j x h fun k hk => by cases hk; exact n
          · cases h
        | [ys], ro, hx =>
          simp only [putOut, h1] at hx
          rcases hset _ hx with ⟨n, h⟩ | ⟨e, h⟩
          · exact same j x h fun k hk => by cases hk; exact n
          · subst e
            cases h
            obtain ⟨us, u1, u2⟩ := ro ys ha rfl
            obtain ⟨w, e1, e2⟩ := ok.slot j d0 h1
            rw [h3] at e1
            cases e1
            refine ⟨_, h3, ?_⟩
            cases d0 with
            | own zs =>
              cases e2 with
              | own h n o r => exact .own u1 (by rw [L.H0]; exact n) (fun q => by
                  rcases (hO _).mp q with q | q
                  · exact o q
                  · rw [tn _ q] at h; cases h) (L.L (RepL.step (by simpa only [putOut, h1] using wk) u2))
              | rep r => exact r.noOwn.elim
            | bor zs =>
              cases e2 with
              | bor h n r => exact .bor u1 (by rw [L.B]; exact n) (L.L (RepL.step (by simpa only [putOut, h1] using wk) u2))
              | rep r => exact r.noBor.elim
            | _ => cases h2
    · intro b o h n
      rw [L.H0] at h
      rw [L.B] at n
      have hb := ok.keep b o h n
      refine R.keep b o hb fun e => ?_
      obtain ⟨i, m, ei⟩ := hba b e
      obtain ⟨ds, hd⟩ := m
      rcases hd with hd | hd
      · obtain ⟨w, e1, e2⟩ := ok.slot i _ hd
        rw [ei] at e1
        cases e1
        cases e2 with
        | own _ n0 _ _ => rw [n0] at h; cases h
        | rep r => exact r.noOwn
      · obtain ⟨w, e1, e2⟩ := ok.slot i _ hd
        rw [ei] at e1
        cases e1
        cases e2 with
        | bor _ b0 _ => exact n b0
        | rep r => exact r.noBor
    · intro b q
      rcases (hO b).mp q with q | q
      · exact R.alloc b (.inl q)
      · exact ht b q
    · intro b q
      rw [L.B] at q
      exact (hO b).mpr (.inl (ok.bo b q))
    · intro q hq
      rw [hh] at hq
      have kq : Kp (Av F σ ρ) H (Av F' σ (putOut ρ l outs)) H' := kpF
      exact q.st _ _ _ _ (ok.held q hq) kq
  cases ht : t with
  | none =>
    subst ht
    have okF := key F ⟨rfl, rfl, rfl, rfl, rfl⟩ rfl (fun b => ⟨fun h => .inl h, fun h => by rcases h with h | h; exact h; cases h⟩) (fun b h => by cases h)
    exact .rep okF (Rep.step (.weak fun b q => by
      rcases q with q | q
      · exact .inl q
      · exact .inr (hMut b q)) (R.res rfl))
  | some a =>
    subst ht
    obtain ⟨us, ds, rfl, rfl, ha, hl, r⟩ := R.new a rfl
    have okF := key (F.out a) .out rfl (fun b => ⟨fun h => by rcases h with h | h; exact .inl h; subst h; exact .inr rfl, fun h => by rcases h with h | h; exact .inl h; cases h; exact .inr rfl⟩) (fun b h => by cases h; exact ⟨_, hl, rfl⟩)
    refine .own hl (ok.n0 ha) (fun q => ok.navn ha (.inl q)) (fun q => ok.navn ha (.inl (ok.bo a q))) (fun q => ok.navn ha (.inr (hMut a q))) okF (RepL.step (.weak fun b q => ?_) r)
    rcases q with (q | q) | q
    · exact .inl (.inl q)
    · subst q; exact .inr rfl
    · exact .inl (.inr (hMut b q))
theorem d_call {sp : DSp} {k : Nat} {ps : List Str} {fp : Pos} [f : Fit X F] (C : Callable X.prog X.w X.K X.mg X.base x k ps (toSp X.K X.w F.cl sp)) (hr : Room k X.A) (hg : Gl X x) (hd : (x == ("__debug__" : Str)) = false) (he : starEach (e :: es) X.env = (false, eval e X.env) :: starEach es X.env) (hpl : (backTo pos (starEach es X.env)).any (·.1) = false)
    (q : DA X F (e :: es) ρ fun as ρ1 => ∃ ds l, Bnd ρ1 as ds l ∧ sp ds fun d outs => Q d (putOut ρ1 l outs)) : DE X F (.Call (.Name x fp) (e :: es) [] pos) ρ Q := fun σ H ok => by
  refine e_call C hr hg hd he hpl (ra_mono (q σ H ok) fun vs H1 ⟨as, ρ1, ok1, ps, k1, ds, l, b, q⟩ => ?_)
  obtain ⟨ba, a1, a2, a3⟩ := b.args ok1 ps
  refine ⟨ds, Av F σ ρ1, ba, _, fun b q => ok1.av q, by rw [f.K, f.w] at a1; exact a1, q, fun d outs hq v H' t R => ?_⟩
  rw [← f.K, ← f.w] at R
  obtain ⟨r1, r2⟩ := ret_res ok1 a2 a3 R
  exact ⟨d, _, r1, k1.trans r2, hq⟩
end
end Dx

end
section -- Di
set_option maxRecDepth 100000
set_option maxHeartbeats 4000000
/-! A def by its body; loops; comprehensions. -/
namespace Dx
open PySem PySem.Spec L2 Sx
open PyProof.Rows hiding St

section
variable {P : Program} {w : World} {K : PySem.W.Frag} {mg : Str → Option Value} {base : Heap}
instance {CX : CXT} {N : List Str} {qual : Str} {sc : Scope} {f : Addr} {cd : Value} {A : Around} {outer : List Env} {s : Shared} {H0 H : Hp} {E : XK} {cl : Str → Option Addr} {O : Addr → Prop} {ba : Option Addr} : Fit (cxOf CX P w K mg base N qual sc f cd A outer s H0 E).nox (fx0 K w cl H O ba) := ⟨rfl, rfl⟩
theorem dfn {x qual : Str} {st : Stmt} {f : Addr} {fd : FuncData} {N ps : List Str} {k : Nat} {sp : DSp} {cl : Str → Option Addr} (F : Fun K x qual st f fd) (S : FnScope N ps (defScope st)) (len : ∀ ds Q, sp ds Q → ds.length = ps.length)
    (body : ∀ (cdv : Value) (A : Around) (outer : List Env) (s : Shared) (H : Hp) (E : XK) (ds : List D) (O : Addr → Prop) (ba : Option Addr) (Q' : D → List (List D) → Prop), Room k (A.deeper (envOfC qual (defScope st) s.heap.objs.size f cdv)) → sp ds Q' →
      DSs (cxOf CX0 P w K mg base N qual (defScope st) f cdv A outer s H E).nox (fx0 K w cl H O ba) (defBody st) ⟨fun ρ => Q' .non (outs ds ρ), fun d ρ => Q' d (outs ds ρ), fun _ => False, fun _ => False⟩ (startE N ds)) : FnOk P w K mg base CX0 (k + 1) f fd ps (toSp K w cl sp) := by
  refine F.ok S (fun vs H Q E ⟨ds, O, ba, K', ho, r, h, _⟩ => by rw [r.len]; exact len ds _ h) (fun cdv A outer s H vs Q E hr ⟨ds, O, ba, K', ho, r, h, hk⟩ => ⟨_, rss _, ?_⟩)
  refine rsx_mono (body cdv A outer s H E ds O ba K' hr h _ _ (ok_start ho r)) (fun σ H' ⟨ρ, ok, q⟩ => ?_) (fun v H' ⟨σ, d, ρ, res, q⟩ => ?_) (fun σ H' ⟨ρ, _, q⟩ => q.elim) (fun σ H' ⟨ρ, _, q⟩ => q.elim)
  · obtain ⟨t, R⟩ := ret_of (ds := ds) (Res.rep ok .non)
    exact hk _ _ q _ _ _ R
  · obtain ⟨t, R⟩ := ret_of (ds := ds) res
    exact hk _ _ q _ _ _ R
end
section
variable {X : Cx} {F : Fx} {e a b c l o tg : Expr} {es : List Expr} {st : Stmt} {sts rest A B body : List Stmt} {ρ ρ' ρ1 : En} {σ : St} {H H' : Hp} {pos p pos' apos np : Pos} {x : Str} {d d0 : D} {v u : V} {i j : Int} {E : DEnds} {Q : DQ} {QB : Bool → En → Prop}
theorem Res.del {hs : List HF} (h : Res (F.also hs) H σ v d ρ) : Res F H σ v d ρ := by
  cases h with
  | rep ok r => exact .rep ok.delHold r
  | own ha h0 no nb nm ok r =>
    refine .own ha h0 no nb nm ?_ r
    exact ok.move ⟨rfl, rfl, rfl, rfl, rfl⟩ (fun _ _ e => e) (fun b u e q => q) ok.out ok.bo (fun q hq => ok.held q (List.mem_append_right _ hq))
def ofRep (K : PySem.W.Frag) (w : World) (cl : Str → Option Addr) (v : V) (d : D) : HF := ⟨fun O H => Rep K w cl O H v d, fun _ _ _ _ r k => r.step k⟩
def ofReps (K : PySem.W.Frag) (w : World) (cl : Str → Option Addr) (v : List V) (d : List D) : HF := ⟨fun O H => RepL K w cl O H v d, fun _ _ _ _ r k => r.step k⟩
def ofAt (a : Addr) (o : HO) : HF := ⟨fun O H => H a = some o ∧ ¬ O a, fun _ _ _ _ r k => ⟨k.keep _ _ r.1 r.2, k.none _ _ r.1 r.2⟩⟩
def ofT (K : PySem.W.Frag) (a : Addr) (xs : List V) : HF := ⟨fun O H => (Rd H a (.tup xs) ∧ ¬ O a) ∨ ∀ H, SqT K H a xs, fun _ _ _ _ r k => by
  rcases r with ⟨h, n⟩ | h
  · exact .inl (k.rd h n)
  · exact .inr h⟩
def ofL (K : PySem.W.Frag) (a : Addr) (xs : List V) : HF := ⟨fun O H => (Rd H a (.lst xs) ∧ ¬ O a) ∨ ∀ H, SqL K H a xs, fun _ _ _ _ r k => by
  rcases r with ⟨h, n⟩ | h
  · exact .inl (k.rd h n)
  · exact .inr h⟩
theorem ofL.sq {K : PySem.W.Frag} {a : Addr} {xs : List V} {O : Addr → Prop} (h : (ofL K a xs).P O H) : SqL K H a xs := by
  rcases h with ⟨h, _⟩ | h
  · exact .inl h
  · exact h H
/-- what a loop over these asks -/
def DFor (X : Cx) (F : Fx) (tg : Expr) (body : List Stmt) (E : DEnds) : List D → En → Prop
  | [], ρ => E.nx ρ
  | x :: xs, ρ => DG X F tg x ρ fun ρ1 => DSs X F body ⟨DFor X F tg body E xs, E.rt, E.nx, DFor X F tg body E xs⟩ ρ1
theorem dfor_run {hs : List HF} (hx : F.R (Av (F.also hs) σ ρ) H v d) {xs : List D} (q : DFor X (F.also hs) tg body E (d :: xs) ρ) (ok : Ok (F.also hs) H σ ρ) :
    RG X tg v σ H fun σ2 H2 => RSs X body ⟨fun σ H => ∃ ρ, Ok (F.also hs) H σ ρ ∧ DFor X (F.also hs) tg body E xs ρ, upR F E.rt, up F E.nx, fun σ H => ∃ ρ, Ok (F.also hs) H σ ρ ∧ DFor X (F.also hs) tg body E xs ρ⟩ σ2 H2 :=
  rg_mono (q σ H v ok hx) fun σ2 H2 ⟨ρ1, ok1, _, q1⟩ => rsx_mono (q1 σ2 H2 ok1) (fun σ H h => h) (fun v H ⟨σ, d, ρ, r, q⟩ => ⟨σ, d, ρ, r.del, q⟩) (fun σ H ⟨ρ, ok, q⟩ => ⟨ρ, ok.delHold, q⟩) (fun σ H h => h)
theorem drop_get {xs : List D} {i : Nat} {d : D} (h : xs[i]? = some d) : xs.drop i = d :: xs.drop (i + 1) := by
  obtain ⟨hi, e⟩ := List.getElem?_eq_some_iff.mp h
  rw [List.drop_eq_getElem_cons hi, e]
/-- the list behind a value with items -/
theorem items_hold {ds : List D} (r : F.R (Av F σ ρ) H v d) (hi : d.items = some ds) : ∃ a xs, v = .ref a ∧ SqL F.K H a xs ∧ (∀ p ∈ [ofL F.K a xs, ofReps F.K F.w F.cl xs ds], p.P (Av F σ ρ) H) := by
  have two : ∀ {a : Addr} {xs : List V}, (ofL F.K a xs).P (Av F σ ρ) H → F.L (Av F σ ρ) H xs ds → ∀ p ∈ [ofL F.K a xs, ofReps F.K F.w F.cl xs ds], p.P (Av F σ ρ) H := by
    intro a xs h1 h2 p hp
    rcases List.mem_cons.mp hp with rfl | hp
    · exact h1
    · rw [List.mem_singleton] at hp; subst hp; exact h2
  cases r with
  | lst h n r =>
    cases hi
    exact ⟨_, _, rfl, .inl (.inl h), two (.inl ⟨.inl h, n⟩) r⟩
  | scr h n r =>
    cases hi
    exact ⟨_, _, rfl, .inl h, two (.inl ⟨h, n⟩) r⟩
  | scrK h r =>
    cases hi
    exact ⟨_, _, rfl, h H, two (.inr h) r⟩
  | _ => cases hi
theorem tup_hold {ds : List D} (r : F.R (Av F σ ρ) H v (.tup ds)) : ∃ a xs, v = .ref a ∧ SqT F.K H a xs ∧ (∀ p ∈ [ofT F.K a xs, ofReps F.K F.w F.cl xs ds], p.P (Av F σ ρ) H) := by
  cases r with
  | tup h n r =>
    exact ⟨_, _, rfl, .inl h, fun p hp => by
      rcases List.mem_cons.mp hp with rfl | hp
      · exact .inl ⟨h, n⟩
      · rw [List.mem_singleton] at hp; subst hp; exact r⟩
  | tupK h r =>
    exact ⟨_, _, rfl, h H, fun p hp => by
      rcases List.mem_cons.mp hp with rfl | hp
      · exact .inr h
      · rw [List.mem_singleton] at hp; subst hp; exact r⟩
theorem ofT.sq {K : PySem.W.Frag} {a : Addr} {xs : List V} {O : Addr → Prop} (h : (ofT K a xs).P O H) : SqT K H a xs := by
  rcases h with ⟨h, _⟩ | h
  · exact .inl h
  · exact h H
/-- a range by ones -/
def rng (lo : Int) (n : Nat) : List D := (List.range n).map fun k : Nat => D.int (lo + k)
theorem rng_get {lo : Int} {n k : Nat} (h : k < n) : (rng lo n)[k]? = some (.int (lo + k)) := by
  unfold rng
  rw [List.getElem?_map, List.getElem?_range h]
  rfl
theorem rng_len {lo : Int} {n : Nat} : (rng lo n).length = n := by unfold rng; simp
/-- a loop by an invariant -/
theorem dfor_inv {xs : List D} (I : Nat → En → Prop) (h0 : I 0 ρ) (hs : ∀ k d ρ, xs[k]? = some d → I k ρ → DG X F tg d ρ fun ρ1 => DSs X F body ⟨I (k + 1), E.rt, E.nx, I (k + 1)⟩ ρ1) (hd : ∀ ρ, I xs.length ρ → E.nx ρ) : DFor X F tg body E xs ρ := by
  have key : ∀ (n k : Nat) (ρ : En), n + k = xs.length → I k ρ → DFor X F tg body E (xs.drop k) ρ := by
    intro n
    induction n with
    | zero =>
      intro k ρ e h
      rw [List.drop_eq_nil_of_le (by omega)]
      rw [show k = xs.length by omega] at h
      exact hd ρ h
    | succ n ih =>
      intro k ρ e h
      have hk : k < xs.length := by omega
      have hg : xs[k]? = some xs[k] := List.getElem?_eq_getElem hk
      rw [drop_get hg]
      intro σ H v ok r
      refine rg_mono (hs k _ ρ hg h σ H v ok r) fun σ2 H2 ⟨ρ1, ok1, k1, q1⟩ => ⟨ρ1, ok1, k1, fun σ3 H3 ok3 => rsx_mono (q1 σ3 H3 ok3) (fun σ H ⟨ρ, ok, q⟩ => ⟨ρ, ok, ih (k + 1) ρ (by omega) q⟩) (fun _ _ h => h) (fun _ _ h => h) (fun σ H ⟨ρ, ok, q⟩ => ⟨ρ, ok, ih (k + 1) ρ (by omega) q⟩)⟩
  have := key xs.length 0 ρ (by omega) h0
  rwa [List.drop_zero] at this
/-- while -/
theorem ds_while {W : En → Prop} (μ : En → Nat) (hp : PassesOwn (model X.prog X.w) X.A X.env X.xe) (h0 : W ρ)
    (hs : ∀ ρ, W ρ → DT X F c ρ fun b ρ1 => if b = true then DSs X F body ⟨fun ρ' => W ρ' ∧ μ ρ' < μ ρ, E.rt, E.nx, fun ρ' => W ρ' ∧ μ ρ' < μ ρ⟩ ρ1 else E.nx ρ1) : DS X F (.While c body [] pos) E ρ := fun σ H ok => by
  refine rs_of (ps_while hp (rt c) (rss body)) ?_
  refine ⟨fun m σ H => ∃ ρ, m = μ ρ ∧ Ok F H σ ρ ∧ W ρ, ⟨_, ρ, rfl, ok, h0⟩, ?_⟩
  rintro m σ H ⟨ρ, rfl, ok, hw⟩
  intro pins s I
  refine thn (dt_run (R := fun b H1 => if b = true then RSs X body ⟨fun σ' H' => ∃ m', m' < μ ρ ∧ ∃ ρ, m' = μ ρ ∧ Ok F H' σ' ρ ∧ W ρ, upR F E.rt, up F E.nx, fun σ' H' => ∃ m', m' < μ ρ ∧ ∃ ρ, m' = μ ρ ∧ Ok F H' σ' ρ ∧ W ρ⟩ σ H1 else up F E.nx σ H1) (hs ρ hw) ok (fun b H1 ρ1 ok1 k1 q1 => ?_) pins s I) fun b s' ⟨H1, I1, q⟩ => ⟨H1, I1, ?_⟩
  · cases b with
    | true => exact iteT (rsx_mono ((show DSs X F body _ ρ1 from q1) σ H1 ok1) (fun σ' H' ⟨ρ', ok', q', l⟩ => ⟨_, l, ρ', rfl, ok', q'⟩) (fun _ _ h => h) (fun _ _ h => h) (fun σ' H' ⟨ρ', ok', q', l⟩ => ⟨_, l, ρ', rfl, ok', q'⟩))
    | false => exact iteF ⟨ρ1, ok1, q1⟩
  · cases b with
    | true => exact ⟨_, fun σ' H' ⟨m', l, h⟩ => ⟨m', l, h⟩, q⟩
    | false => exact q
end
end Dx

end
section -- Dj
set_option maxRecDepth 100000
set_option maxHeartbeats 4000000
/-! What a for or a comprehension walks. -/
namespace Dx
open PySem PySem.Spec L2 Sx
open PyProof.Rows hiding St

def DIt (hs : List HF) (F : Fx) (J : It) (ds : List D) : Prop := ∀ (F' : Fx) (H : Hp) (σ : St) (ρ : En) (m : Nat), Like F' F → (∀ p ∈ hs, p ∈ F'.held) → Ok F' H σ ρ →
  (m = ds.length → J.stop m H) ∧ ∀ d, ds[m]? = some d → J.go m H ∧ ∀ x H', J.yld m H x H' → (∀ b o, H b = some o → H' b = some o) ∧ F'.R (Av F' σ ρ) H' x d
def DI (X : Cx) (F : Fx) (tg iter : Expr) (ρ : En) (K : List D → En → Prop) : Prop :=
  ∃ wi, PI X tg iter wi ∧ ∀ σ H (R : It → Hp → Prop), Ok F H σ ρ → (∀ J H1 ρ1 hs ds, Ok (F.also hs) H1 σ ρ1 → Kp (Mut σ ρ) H (Mut σ ρ1) H1 → DIt hs F J ds → K ds ρ1 → R J H1) → wi σ H R
section
variable {X : Cx} {F : Fx} {e a b c l o tg iter elt : Expr} {es ifs : List Expr} {st : Stmt} {body : List Stmt} {ρ ρ' ρ1 : En} {σ : St} {H H' : Hp} {pos p pos' apos np fp p' : Pos} {x : Str} {d d0 : D} {v u : V} {i j : Int} {E : DEnds} {Q : DQ} {QB : Bool → En → Prop} {K : List D → En → Prop}
theorem ds_for (hf : ∀ x, foldedSetIterable l X.env x = pure x) (hp : PassesOwn (model X.prog X.w) X.A X.env X.xe) (hc : X.calm = true) (q : DI X F tg l ρ fun ds ρ1 => ∀ hs : List HF, DFor X (F.also hs) tg body E ds ρ1) : DS X F (.For tg l body [] pos) E ρ := fun σ H ok => by
  obtain ⟨wi, hi, q⟩ := q
  refine rs_of (ps_for hp hc hi (rg tg) (rss body) hf) ?_
  show wi σ H fun J H1 => ForJ X tg body (up F E.nx) (upR F E.rt) σ J H1
  refine q σ H _ ok fun J H1 ρ1 hs ds ok1 k1 it q => ?_
  refine ⟨fun i m σ H => m = ds.length - i ∧ i ≤ ds.length ∧ ∃ ρ, Ok (F.also hs) H σ ρ ∧ DFor X (F.also hs) tg body E (ds.drop i) ρ, ⟨_, rfl, Nat.zero_le _, ρ1, ok1, q hs⟩, ?_⟩
  rintro i m σ H ⟨rfl, hi, ρ, ok, q⟩
  obtain ⟨j1, j2⟩ := it (F.also hs) H σ ρ i .also (fun p hp => List.mem_append_left _ hp) ok
  by_cases hlt : i < ds.length
  · have hg : ds[i]? = some ds[i] := List.getElem?_eq_getElem hlt
    obtain ⟨g, y⟩ := j2 _ hg
    refine .inr ⟨g, fun σ H => ∃ ρ, Ok (F.also hs) H σ ρ ∧ DFor X (F.also hs) tg body E (ds.drop (i + 1)) ρ, fun σ' H' h => ⟨_, by omega, rfl, hlt, h⟩, fun x H' hy => ?_⟩
    obtain ⟨y1, y2⟩ := y x H' hy
    rw [drop_get hg] at q
    exact dfor_run (F := F) (hs := hs) y2 q (ok.grow y1)
  · have ei : i = ds.length := by omega
    rw [List.drop_eq_nil_of_le (by omega)] at q
    exact .inl ⟨j1 ei, ρ, ok.delHold, q⟩
/-! ### lists, tuples, ranges, enumerate, zip -/
theorem dit_list {a : Addr} {xs : List V} {ds : List D} (hlen : xs.length = ds.length) : DIt [ofL F.K a xs, ofReps F.K F.w F.cl xs ds] F (Itl F.K a) ds := fun F' H σ ρ m L hh ok => by
  have h1 : SqL F.K H a xs := ofL.sq (ok.held _ (hh _ (List.mem_cons_self ..)))
  have h2 : RepL F.K F.w F.cl (Av F' σ ρ) H xs ds := ok.held _ (hh _ (List.mem_cons_of_mem _ (List.mem_cons_self ..)))
  refine ⟨fun e => ⟨xs, h1, by omega⟩, fun d hd => ?_⟩
  obtain ⟨v, e1, e2⟩ := h2.get hd
  refine ⟨⟨xs, v, h1, e1⟩, fun x H' ⟨e, f⟩ => ?_⟩
  subst e
  have e3 := f xs h1
  rw [e1] at e3
  cases e3
  exact ⟨fun _ _ h => h, L.R e2⟩
theorem dit_tup {a : Addr} {xs : List V} {ds : List D} (hlen : xs.length = ds.length) : DIt [ofT F.K a xs, ofReps F.K F.w F.cl xs ds] F (Itt F.K a) ds := fun F' H σ ρ m L hh ok => by
  have h1 : SqT F.K H a xs := ofT.sq (ok.held _ (hh _ (List.mem_cons_self ..)))
  have h2 : RepL F.K F.w F.cl (Av F' σ ρ) H xs ds := ok.held _ (hh _ (List.mem_cons_of_mem _ (List.mem_cons_self ..)))
  refine ⟨fun e => ⟨xs, h1, by omega⟩, fun d hd => ?_⟩
  obtain ⟨v, e1, e2⟩ := h2.get hd
  refine ⟨⟨xs, v, h1, e1⟩, fun x H' ⟨e, f⟩ => ?_⟩
  subst e
  have e3 := f xs h1
  rw [e1] at e3
  cases e3
  exact ⟨fun _ _ h => h, L.R e2⟩
theorem dit_rng {lo : Int} {n : Nat} : DIt [] F (Itr lo n) (rng lo n) := fun F' H σ ρ m L hh ok => by
  refine ⟨fun e => by rw [rng_len] at e; exact Nat.le_of_eq e.symm, fun d hd => ?_⟩
  have hm : m < n := by
    have := (List.getElem?_eq_some_iff.mp hd).1
    rwa [rng_len] at this
  rw [rng_get hm] at hd
  cases hd
  exact ⟨hm, fun x H' ⟨e, f⟩ => by subst e; subst f; exact ⟨fun _ _ h => h, .int _⟩⟩
def enumD (ds : List D) : List D := ds.zipIdx.map fun p => D.tup [.int (p.2 : Nat), p.1]
theorem enumD_len {ds : List D} : (enumD ds).length = ds.length := by unfold enumD; simp
theorem enumD_get {ds : List D} {m : Nat} {d : D} (h : (enumD ds)[m]? = some d) : ∃ x, ds[m]? = some x ∧ d = .tup [.int (m : Nat), x] := by
  unfold enumD at h
  rw [List.getElem?_map, List.getElem?_zipIdx] at h
  cases e : ds[m]? with
  | none => rw [e] at h; simp at h
  | some x => rw [e] at h; simp at h; exact ⟨x, rfl, h.symm⟩
theorem dit_enumT {a : Addr} {xs : List V} {ds : List D} (hlen : xs.length = ds.length) : DIt [ofT F.K a xs, ofReps F.K F.w F.cl xs ds] F (IteT F.K a) (enumD ds) := fun F' H σ ρ m L hh ok => by
  have h1 : SqT F.K H a xs := ofT.sq (ok.held _ (hh _ (List.mem_cons_self ..)))
  have h2 : RepL F.K F.w F.cl (Av F' σ ρ) H xs ds := ok.held _ (hh _ (List.mem_cons_of_mem _ (List.mem_cons_self ..)))
  refine ⟨fun e => ⟨xs, h1, by rw [enumD_len] at e; omega⟩, fun d hd => ?_⟩
  obtain ⟨y, hy, rfl⟩ := enumD_get hd
  obtain ⟨v, e1, e2⟩ := h2.get hy
  refine ⟨⟨xs, v, h1, e1⟩, fun x H' ⟨T, z, hx, hT, hH, f⟩ => ?_⟩
  subst hx
  subst hH
  have e3 := f xs h1
  rw [e1] at e3
  cases e3
  exact ⟨grow_upd hT, .tup (.inl upd_same) (ok.navn hT) (.cons (.int _) (.cons (L.R (Rep.step (.new (grow_upd hT)) e2)) .nil))⟩
theorem di_L [f : Fit X F] (q : DE X F l ρ fun d ρ1 => ∃ ds, d.fz.items = some ds ∧ K ds ρ1) : DI X F tg l ρ K := by
  refine ⟨_, pi_list (re l), fun σ H R ok k => ?_⟩
  refine de_run q ok fun v H1 d ρ1 ok1 r1 k1 ⟨ds, hi, q⟩ => ?_
  obtain ⟨a, xs, rfl, hl, hh⟩ := items_hold r1 hi
  have hlen : xs.length = ds.length := RepL.len (hh (ofReps F.K F.w F.cl xs ds) (List.mem_cons_of_mem _ (List.mem_cons_self ..)))
  exact ⟨a, rfl, ⟨xs, by rw [← f.K]; exact hl⟩, k _ _ ρ1 _ ds (ok1.addHold hh) k1 (by rw [← f.K]; exact dit_list hlen) q⟩
theorem di_T [f : Fit X F] (q : DE X F l ρ fun d ρ1 => ∃ ds, d = .tup ds ∧ K ds ρ1) : DI X F tg l ρ K := by
  refine ⟨_, pi_tup (re l), fun σ H R ok k => ?_⟩
  refine de_run q ok fun v H1 d ρ1 ok1 r1 k1 ⟨ds, hi, q⟩ => ?_
  subst hi
  obtain ⟨a, xs, rfl, hl, hh⟩ := tup_hold r1
  have hlen : xs.length = ds.length := RepL.len (hh (ofReps F.K F.w F.cl xs ds) (List.mem_cons_of_mem _ (List.mem_cons_self ..)))
  exact ⟨a, rfl, ⟨xs, by rw [← f.K]; exact hl⟩, k _ _ ρ1 _ ds (ok1.addHold hh) k1 (by rw [← f.K]; exact dit_tup hlen) q⟩
theorem di_R1 (B : Blt X.mg) (hg : Gl X "range") (hs : starEach [a] X.env = [(false, eval a X.env)]) (q : DE X F a ρ fun d ρ1 => ∃ j : Int, d = .int j ∧ (-(2 ^ 62) ≤ j ∧ j < 2 ^ 62) ∧ K (rng 0 j.toNat) ρ1) : DI X F tg (.Call (.Name "range" fp) [a] [] p') ρ K := by
  refine ⟨_, pi_range1 hg B.range (ra [a]) hs, fun σ H R ok k => ?_⟩
  refine a_cons hs (de_run q ok fun v H1 d ρ1 ok1 r1 k1 ⟨j, hd, hj, q⟩ => a_nil ?_)
  subst hd
  rw [r1.intV]
  exact ⟨j, rfl, hj.1, hj.2, k _ _ ρ1 [] _ ok1 k1 dit_rng q⟩
theorem di_R2 (B : Blt X.mg) (hg : Gl X "range") (hs : starEach [a, b] X.env = [(false, eval a X.env), (false, eval b X.env)]) (hs2 : starEach [b] X.env = [(false, eval b X.env)])
    (q : DE X F a ρ fun d ρ1 => ∃ lo : Int, d = .int lo ∧ DE X F b ρ1 fun d ρ2 => ∃ j : Int, d = .int j ∧ (-(2 ^ 62) ≤ lo ∧ lo < 2 ^ 62 ∧ -(2 ^ 62) ≤ j ∧ j < 2 ^ 62) ∧ K (rng lo (j - lo).toNat) ρ2) : DI X F tg (.Call (.Name "range" fp) [a, b] [] p') ρ K := by
  have hs' : starEach [a, b] X.env = (false, eval a X.env) :: starEach [b] X.env := by rw [hs, hs2]
  refine ⟨_, pi_range2 hg B.range (ra [a, b]) hs hs2, fun σ H R ok k => ?_⟩
  refine a_cons hs' (de_run q ok fun v H1 d ρ1 ok1 r1 k1 ⟨lo, hd, q⟩ => a_cons hs2 (de_run q ok1 fun u H2 d2 ρ2 ok2 r2 k2 ⟨j, hd2, hj, q⟩ => a_nil ?_))
  subst hd
  subst hd2
  rw [r1.intV, r2.intV]
  exact ⟨lo, j, rfl, hj, k _ _ ρ2 [] _ ok2 (k1.trans k2) dit_rng q⟩
theorem di_ET {elts : List Expr} {kk : Nat} {tpos : Pos} [f : Fit X F] (B : Blt X.mg) (hg : Gl X "enumerate") (hs : starEach [e] X.env = [(false, eval e X.env)]) (q : DE X F e ρ fun d ρ1 => ∃ ds, d = .tup ds ∧ K (enumD ds) ρ1) :
    DI X F (.Tuple elts kk tpos) (.Call (.Name "enumerate" fp) [e] [] p') ρ K := by
  refine ⟨_, pi_enumT hg B.enumerate (ra [e]) hs, fun σ H R ok k => ?_⟩
  refine a_cons hs (de_run q ok fun v H1 d ρ1 ok1 r1 k1 ⟨ds, hi, q⟩ => a_nil ?_)
  subst hi
  obtain ⟨a, xs, rfl, hl, hh⟩ := tup_hold r1
  have hlen : xs.length = ds.length := RepL.len (hh (ofReps F.K F.w F.cl xs ds) (List.mem_cons_of_mem _ (List.mem_cons_self ..)))
  exact ⟨a, xs, rfl, by rw [← f.K]; exact hl, k _ _ ρ1 _ _ (ok1.addHold hh) k1 (by rw [← f.K]; exact dit_enumT hlen) q⟩

/-! ### list comprehensions -/
def wipeE (ρ : En) : List Nat → En
  | [] => ρ
  | v :: vs => (wipeE ρ vs).set v none
theorem wipe_get {σ : St} {j : Nat} : ∀ {vs : List Nat}, j ∉ vs → (wipe σ vs)[j]? = σ[j]?
  | [], _ => rfl
  | v :: vs, h => by
    show ((wipe σ vs).set v none)[j]? = _
    rw [List.getElem?_set_ne (fun e => h (by rw [← e]; exact List.mem_cons_self ..))]
    exact wipe_get fun q => h (List.mem_cons_of_mem _ q)
theorem wipeE_get {ρ : En} {j : Nat} : ∀ {vs : List Nat}, j ∉ vs → (wipeE ρ vs)[j]? = ρ[j]?
  | [], _ => rfl
  | v :: vs, h => by
    show ((wipeE ρ vs).set v none)[j]? = _
    rw [List.getElem?_set_ne (fun e => h (by rw [← e]; exact List.mem_cons_self ..))]
    exact wipeE_get fun q => h (List.mem_cons_of_mem _ q)
theorem wipeE_none {ρ : En} {j : Nat} {d : D} : ∀ {vs : List Nat}, (wipeE ρ vs)[j]? = some (some d) → j ∉ vs
  | [], _ => by simp
  | v :: vs, h => by
    have h : ((wipeE ρ vs).set v none)[j]? = some (some d) := h
    by_cases e : v = j
    · subst e
      rw [List.getElem?_set] at h
      simp at h
    · rw [List.getElem?_set_ne e] at h
      intro q
      rcases List.mem_cons.mp q with q | q
      · exact e q.symm
      · exact wipeE_none h q
theorem wipeE_len {ρ : En} : ∀ {vs : List Nat}, (wipeE ρ vs).length = ρ.length
  | [] => rfl
  | v :: vs => by show ((wipeE ρ vs).set v none).length = _; rw [List.length_set, wipeE_len]
theorem isM_wipe {vs : List Nat} {j : Nat} (h : IsM (wipeE ρ vs) j) : j ∉ vs ∧ IsM ρ j := by
  obtain ⟨ds, h⟩ := h
  have n : j ∉ vs := by rcases h with h | h <;> exact wipeE_none h
  rw [wipeE_get n] at h
  exact ⟨n, ds, h⟩
/-- into the block, and out of it: σ and σ' are alike but for vs -/
theorem Ok.wiped {σ' : St} {vs : List Nat} (ok : Ok F H σ ρ) (hσ : ∀ j, j ∉ vs → σ'[j]? = σ[j]?) (hl : σ'.length = σ.length) : Ok F H σ' (wipeE ρ vs) ∧ Kp (Mut σ ρ) H (Mut σ' (wipeE ρ vs)) H := by
  have hm : ∀ b, Mut σ' (wipeE ρ vs) b → Mut σ ρ b := fun b ⟨j, m, e⟩ => by
    obtain ⟨n, m⟩ := isM_wipe m
    rw [hσ j n] at e
    exact ⟨j, m, e⟩
  refine ⟨ok.slots hm (by rw [wipeE_len, hl]; exact ok.len) (fun j d h => ?_) (fun j k b n m1 m2 e1 e2 => ?_), .weak hm⟩
  · have n := wipeE_none h
    rw [wipeE_get n] at h
    rw [hσ j n]
    exact ok.slot j d h
  · obtain ⟨n1, m1⟩ := isM_wipe m1
    obtain ⟨n2, m2⟩ := isM_wipe m2
    rw [hσ j n1] at e1
    rw [hσ k n2] at e2
    exact ok.dist j k b n m1 m2 e1 e2
theorem wipe_set {σ : St} {k : Nat} {v : Option V} : ∀ {vs : List Nat}, k ∈ vs → wipe (σ.set k v) vs = wipe σ vs
  | w :: vs, h => by
    show (wipe (σ.set k v) vs).set w none = (wipe σ vs).set w none
    by_cases hk : k ∈ vs
    · rw [wipe_set hk]
    · have e : k = w := by rcases List.mem_cons.mp h with h | h; exact h; exact (hk h).elim
      subst e
      have : ∀ {us : List Nat}, k ∉ us → wipe (σ.set k v) us = (wipe σ us).set k v := by
        intro us
        induction us with
        | nil => intro _; rfl
        | cons u us ih =>
          intro hn
          show (wipe (σ.set k v) us).set u none = ((wipe σ us).set u none).set k v
          rw [ih (fun q => hn (List.mem_cons_of_mem _ q)), List.set_comm]
          intro e
          exact hn (by rw [e]; exact List.mem_cons_self ..)
      rw [this hk, List.set_set]
theorem wipe_wipe {σ : St} : ∀ {us vs : List Nat}, (∀ k ∈ us, k ∈ vs) → wipe (wipe σ us) vs = wipe σ vs
  | [], _, _ => rfl
  | u :: us, vs, h => by
    show wipe ((wipe σ us).set u none) vs = _
    rw [wipe_set (h u (List.mem_cons_self ..))]
    exact wipe_wipe fun k hk => h k (List.mem_cons_of_mem _ hk)
/-- a target of a comprehension -/
def DV (X : Cx) (F : Fx) (vs : List Nat) (tg : Expr) (d : D) (ρ : En) (N : En → Prop) : Prop := ∀ σ H v, Ok F H σ ρ → F.R (Av F σ ρ) H v d → RG X tg v σ H fun σ' H' => (∀ j, j ∉ vs → σ'[j]? = σ[j]?) ∧ wipe σ' vs = wipe σ vs ∧ ∃ ρ', Ok F H' σ' ρ' ∧ Kp (Mut σ ρ) H (Mut σ' ρ') H' ∧ N ρ'
def DVs (X : Cx) (F : Fx) (vs : List Nat) (tgs : List Expr) (ds : List D) (ρ : En) (N : En → Prop) : Prop := ∀ σ H us, Ok F H σ ρ → F.L (Av F σ ρ) H us ds → RGs X tgs us σ H fun σ' H' => (∀ j, j ∉ vs → σ'[j]? = σ[j]?) ∧ wipe σ' vs = wipe σ vs ∧ ∃ ρ', Ok F H' σ' ρ' ∧ Kp (Mut σ ρ) H (Mut σ' ρ') H' ∧ N ρ'
theorem dv_name {N : En → Prop} {vs : List Nat} {k : Nat} (hN : X.N.Nodup) (hk : X.N[k]? = some x) (hv : k ∈ vs) (hx : Loc X.env.scope x) (hf : X.fn x = true ∨ X.env.scope.names.lookup x = some .local) (q : N (ρ.set k (some d))) : DV X F vs (.Name x pos) d ρ N := fun σ H v ok r => by
  refine rg_of (pg_name (i := k) hN hk hx hf) ⟨fun j n => ?_, wipe_set hv, _, ok.set r, ?_, q⟩
  · rw [List.getElem?_set_ne (fun e => n (by rw [← e]; exact hv))]
  · exact .weak fun b ⟨j, m, e⟩ => by
      rcases isM_set m with ⟨_, ds, h⟩ | ⟨n, m⟩
      · rcases h with h | h
        · cases h; exact r.noOwn.elim
        · cases h; exact r.noBor.elim
      · rw [List.getElem?_set_ne (fun q => n q.symm)] at e
        exact ⟨j, m, e⟩
theorem dvs_nil {N : En → Prop} {vs : List Nat} (q : N ρ) : DVs X F vs [] [] ρ N := fun σ H us ok r => by
  cases r
  exact gs_nil ⟨fun _ _ => rfl, rfl, ρ, ok, .refl, q⟩
theorem Kp.mut2 {σ' : St} (k : Kp (Mut σ ρ) H (Mut σ' ρ') H') : Kp (Av F σ ρ) H (Av F σ' ρ') H' :=
  ⟨fun b o h n => k.keep b o h fun m => n (.inr m), fun b o h n q => by
    rcases q with q | q
    · exact n (.inl q)
    · exact k.none b o h (fun m => n (.inr m)) q⟩
theorem dvs_cons {N : En → Prop} {vs : List Nat} {ds : List D} (hs : (assignEach (e :: es) X.env).map (·.2) = assign e X.env :: (assignEach es X.env).map (·.2)) (q : DV X F vs e d ρ fun ρ1 => DVs X F vs es ds ρ1 N) : DVs X F vs (e :: es) (d :: ds) ρ N := fun σ H us ok r => by
  cases r with
  | cons r t => exact gs_cons hs (rg_mono (q σ H _ ok r) fun σ1 H1 ⟨h1, w1, ρ1, ok1, k1, q1⟩ => rgs_mono (q1 σ1 H1 _ ok1 (t.step k1.mut2)) fun σ2 H2 ⟨h2, w2, ρ2, ok2, k2, q2⟩ => ⟨fun j n => (h2 j n).trans (h1 j n), w2.trans w1, ρ2, ok2, k1.trans k2, q2⟩)
theorem dv_tup {N : En → Prop} {vs : List Nat} {k n : Nat} {ds : List D} [f : Fit X F] (hc : X.calm = true) (hn : (assignEach es X.env).length = n) (hst : (assignEach es X.env).findIdx? (·.1) = none) (hl : ds.length = n) (q : DVs X F vs es ds ρ N) : DV X F vs (.Tuple es k pos) (.tup ds) ρ N := fun σ H v ok r => by
  obtain ⟨a, xs, rfl, hx, r⟩ := r.tupRef
  exact g_tup hc hn hst (by rw [← f.K]; exact hx) (by rw [r.len]; exact hl) (q σ H xs ok r)
/-- in the block -/
def InB (X : Cx) (scope : Scope) (P : Cx → Prop) : Prop := ∀ (s : Shared) (H0 : Hp) (C : Addr) (cl : List (Str × Addr)) (fp : List Addr), P (X.blk s H0 scope (compEnvC scope cl C X.env) fp)
def DTe (X : Cx) (F : Fx) (scope : Scope) (ifs : List Expr) (ρ : En) (K : Bool → En → Prop) : Prop := match ifs with
  | [] => K true ρ
  | [c] => InB X scope fun Y => DT Y F c ρ K
  | _ => False
/-- the turns -/
def DLc (X : Cx) (F : Fx) (scope : Scope) (vs : List Nat) (tg : Expr) (ifs : List Expr) (elt : Expr) : List D → List D → En → (List D → En → Prop) → Prop
  | [], acc, ρ, K => K acc ρ
  | x :: xs, acc, ρ, K => InB X scope fun Y => DV Y F vs tg x (wipeE ρ vs) fun ρ1 => DTe X F scope ifs ρ1 fun b ρ2 =>
      if b = true then InB X scope fun Y => DE Y F elt ρ2 fun y ρ3 => acc.length < sizeLine ∧ DLc X F scope vs tg ifs elt xs (acc ++ [y.fz]) (wipeE ρ3 vs) K else DLc X F scope vs tg ifs elt xs acc (wipeE ρ2 vs) K
instance {s : Shared} {H0 : Hp} {scope : Scope} {cenv : Env} {fp : List Addr} [f : Fit X F] : Fit (X.blk s H0 scope cenv fp) F := ⟨f.K, f.w⟩
theorem dte_run {scope : Scope} {R : Bool → Hp → Prop} (h : DTe X F scope ifs ρ QB) (ok : Ok F H σ ρ) (k : ∀ b H' ρ', Ok F H' σ ρ' → Kp (Mut σ ρ) H (Mut σ ρ') H' → QB b ρ' → R b H') : LcTest X scope ifs σ H R := by
  match ifs, h with
  | [], h => exact k true H ρ ok .refl h
  | [c], h => exact fun s H0 C cl fp => dt_run (h s H0 C cl fp) ok k
theorem Ok.notMut {D' : Addr} (ok : Ok F H σ ρ) (ho : F.Out D') (nb : ¬ F.B D') : ¬ Mut σ ρ D' := fun ⟨j, ⟨ds, hd⟩, e⟩ => by
  rcases hd with hd | hd
  · obtain ⟨w, e1, e2⟩ := ok.slot j _ hd
    rw [e] at e1
    cases e1
    cases e2 with
    | own _ _ o _ => exact o ho
    | rep r => exact r.noOwn
  · obtain ⟨w, e1, e2⟩ := ok.slot j _ hd
    rw [e] at e1
    cases e1
    cases e2 with
    | bor _ b _ => exact nb b
    | rep r => exact r.noBor
theorem Ok.updOut {D' : Addr} {u : HO} (ok : Ok F H σ ρ) (ho : F.Out D') (nb : ¬ F.B D') (h0 : F.H0 D' = none) (hc : chg u = true := by rfl) : Ok F (upd H D' u) σ ρ ∧ Kp (Av F σ ρ) H (Av F σ ρ) (upd H D' u) := by
  have kp : Kp (Av F σ ρ) H (Av F σ ρ) (upd H D' u) := ⟨fun b o h n => by rw [upd_ne (fun e => n (by rw [e]; exact .inl ho))]; exact h, fun _ _ _ n => n⟩
  refine ⟨{ len := ok.len, slot := fun i d h => ?_, dist := ok.dist, keep := fun b o h n => ?_, out := fun b h => ?_, bo := ok.bo, held := fun p hp => p.st _ _ _ _ (ok.held p hp) kp }, kp⟩
  · obtain ⟨w, e1, e2⟩ := ok.slot i d h
    refine ⟨w, e1, e2.step kp fun a vs hw m h' => ?_⟩
    subst hw
    rw [upd_ne]
    · exact h'
    · intro e
      subst e
      refine ok.notMut ho nb ⟨i, ?_, e1⟩
      rcases m with ⟨ds, rfl⟩ | ⟨ds, rfl⟩
      · exact ⟨ds, .inl h⟩
      · exact ⟨ds, .inr h⟩
  · rw [upd_ne (fun e => by rw [e, h0] at h; cases h)]
    exact ok.keep b o h n
  · by_cases e : b = D'
    · subst e; exact ⟨_, upd_same, hc⟩
    · obtain ⟨o, h1, h2⟩ := ok.out b h
      exact ⟨o, by rw [upd_ne e]; exact h1, h2⟩
theorem Kp.orD {O O' : Addr → Prop} {D' : Addr} (k : Kp O H O' H') : Kp (fun b => O b ∨ b = D') H (fun b => O' b ∨ b = D') H' :=
  ⟨fun b o h n => k.keep b o h fun q => n (.inl q), fun b o h n q => by
    rcases q with q | q
    · exact k.none b o h (fun q => n (.inl q)) q
    · exact n (.inr q)⟩
theorem Kp.updD {O : Addr → Prop} {D' : Addr} {u : HO} : Kp (fun b => O b ∨ b = D') H (fun b => O b ∨ b = D') (upd H D' u) :=
  ⟨fun b o h n => by rw [upd_ne (fun e => n (.inr e))]; exact h, fun _ _ _ n => n⟩
theorem d_lc {scope : Scope} {own : List (Str × Nat)} (hc : X.calm = true) (hN : X.N.Nodup) (ok : BlkOk X.N X.env.scope scope own) (hl : ifs.length ≤ 1) (hs : ∀ x, foldedSetIterable iter X.env x = pure x)
    (q : DI X F tg iter ρ fun ds ρ1 => ∀ hs D', DLc X ((F.also hs).out D') scope (own.map (·.2)) tg ifs elt ds [] ρ1 fun acc ρ2 => Q (.own acc) ρ2) : DE X F (.ListComp elt [⟨tg, iter, ifs, 0⟩] scope pos) ρ Q := fun σ H ok0 => by
  obtain ⟨wi, hi, q⟩ := q
  refine e_lcI hc hN hi ok hl hs ?_
  refine q σ H _ ok0 fun J H1 ρ1 hs ds ok1 k1 it q => ?_
  intro D' hD
  have q := q hs D'
  generalize hvs : own.map (·.2) = vs at q ⊢
  have L2 : Like ((F.also hs).out D') F := ⟨rfl, rfl, rfl, rfl, rfl⟩
  have hO : ((F.also hs).out D').Out D' := .inr rfl
  have nb : ¬ ((F.also hs).out D').B D' := fun h => ok1.navn hD (.inl (ok1.bo D' h))
  have h0 : ((F.also hs).out D').H0 D' = none := ok1.n0 hD
  have no : ¬ F.Out D' := fun h => ok1.navn hD (.inl h)
  refine ⟨fun i m H => m = ds.length - i ∧ i ≤ ds.length ∧ ∃ ρ accV acc, Ok ((F.also hs).out D') H σ ρ ∧ Kp (fun b => Mut σ ρ1 b ∨ b = D') (upd H1 D' (.lst [])) (fun b => Mut σ ρ b ∨ b = D') H ∧ H D' = some (.lst accV) ∧ F.L (Av ((F.also hs).out D') σ ρ) H accV acc ∧
    DLc X ((F.also hs).out D') scope vs tg ifs elt (ds.drop i) acc ρ fun acc ρ2 => Q (.own acc) ρ2, ⟨_, rfl, Nat.zero_le _, ρ1, [], [], ok1.addOut hD, .refl, upd_same, .nil, q⟩, ?_⟩
  rintro i m H ⟨rfl, hi, ρ, accV, acc, ok, kp, ha, ra, q⟩
  obtain ⟨j1, j2⟩ := it ((F.also hs).out D') H σ ρ i L2 (fun p hp => List.mem_append_left _ hp) ok
  by_cases hlt : i < ds.length
  · have hg : ds[i]? = some ds[i] := List.getElem?_eq_getElem hlt
    obtain ⟨g, y⟩ := j2 _ hg
    rw [drop_get hg] at q
    refine .inr ⟨g, fun H => ∃ ρ accV acc, Ok ((F.also hs).out D') H σ ρ ∧ Kp (fun b => Mut σ ρ1 b ∨ b = D') (upd H1 D' (.lst [])) (fun b => Mut σ ρ b ∨ b = D') H ∧ H D' = some (.lst accV) ∧ F.L (Av ((F.also hs).out D') σ ρ) H accV acc ∧
      DLc X ((F.also hs).out D') scope vs tg ifs elt (ds.drop (i + 1)) acc ρ fun acc ρ2 => Q (.own acc) ρ2, fun H' h => ⟨_, by omega, rfl, hlt, h⟩, fun x H2 hy => ?_⟩
    obtain ⟨y1, y2⟩ := y x H2 hy
    have ok2 := ok.grow y1
    have kg : Kp (Mut σ ρ) H (Mut σ ρ) H2 := .new y1
    obtain ⟨okw, kw⟩ := ok2.wiped (σ' := wipe σ vs) (vs := vs) (fun j n => wipe_get n) (wipe_length _ _)
    intro s H0 C cl fp
    refine rg_mono (q s H0 C cl fp _ _ _ okw (Rep.step kw.mut2 y2)) fun σ3 H3 ⟨hσ, hw, ρ3, ok3, k3, q3⟩ => ?_
    have hw' : wipe σ3 vs = wipe σ vs := hw.trans (wipe_wipe fun _ h => h)
    have hσ' : ∀ j, j ∉ vs → σ[j]? = σ3[j]? := fun j n => by rw [hσ j n, wipe_get n]
    have hlen : σ.length = σ3.length := by
      have := congrArg List.length hw'
      rw [wipe_length, wipe_length] at this
      exact this.symm
    refine ⟨hw', dte_run q3 ok3 fun b H4 ρ4 ok4 k4 q4 => ?_⟩
    have ka : Kp (Mut σ ρ) H (Mut σ3 ρ4) H4 := ((kg.trans kw).trans k3).trans k4
    cases b with
    | true =>
      refine iteT ?_
      have q4 : InB X scope fun Y => DE Y ((F.also hs).out D') elt ρ4 fun y ρ3 => acc.length < sizeLine ∧ DLc X ((F.also hs).out D') scope vs tg ifs elt (ds.drop (i + 1)) (acc ++ [y.fz]) (wipeE ρ3 vs) fun acc ρ2 => Q (.own acc) ρ2 := q4
      intro s H0 C cl fp
      refine de_run (q4 s H0 C cl fp) ok4 fun v H5 y ρ5 ok5 r5 k5 ⟨hz, q5⟩ => ?_
      have kb : Kp (Mut σ ρ) H (Mut σ3 ρ5) H5 := ka.trans k5
      have ha5 : H5 D' = some (.lst accV) := kb.keep _ _ ha (ok.notMut hO nb)
      have ra5 : F.L (Av ((F.also hs).out D') σ3 ρ5) H5 accV acc := RepL.step kb.mut2 ra
      refine ⟨accV, ha5, by rw [ra5.len]; exact hz, ?_⟩
      obtain ⟨ok6, k6⟩ := ok5.updOut (u := .lst (accV ++ [v])) hO nb h0
      obtain ⟨ok7, k7⟩ := ok6.wiped (σ' := σ) (vs := vs) hσ' hlen
      refine ⟨_, accV ++ [v], acc ++ [y.fz], ok7, ?_, upd_same, ?_, q5⟩
      · exact ((kp.trans kb.orD).trans Kp.updD).trans k7.orD
      · exact RepL.step k7.mut2 (RepL.step k6 (ra5.app (.cons r5 .nil)))
    | false =>
      refine iteF ?_
      have q4 : DLc X ((F.also hs).out D') scope vs tg ifs elt (ds.drop (i + 1)) acc (wipeE ρ4 vs) fun acc ρ2 => Q (.own acc) ρ2 := q4
      obtain ⟨ok7, k7⟩ := ok4.wiped (σ' := σ) (vs := vs) hσ' hlen
      refine ⟨_, accV, acc, ok7, (kp.trans ka.orD).trans k7.orD, ka.keep _ _ ha (ok.notMut hO nb), RepL.step (ka.trans k7).mut2 ra, q4⟩
  · have ei : i = ds.length := by omega
    rw [List.drop_eq_nil_of_le (by omega)] at q
    have q : Q (.own acc) ρ := q
    refine .inl ⟨j1 ei, .own acc, ρ, .own ha h0 no nb (ok.notMut hO nb) ?_ ra, ?_, q⟩
    · exact ok.move ⟨rfl, rfl, rfl, rfl, rfl⟩ (fun _ _ e => e) (fun b u e q => q) ok.out ok.bo (fun q hq => ok.held q (List.mem_append_right _ hq))
    · refine ⟨fun b o h n => ?_, fun b o h n m => ?_⟩
      · have h1 := k1.keep b o h n
        have hne : b ≠ D' := fun e => by rw [e, hD] at h1; cases h1
        exact kp.keep b o (by rw [upd_ne hne]; exact h1) (fun q => by
          rcases q with q | q
          · exact k1.none b o h n q
          · exact hne q)
      · have h1 := k1.keep b o h n
        have hne : b ≠ D' := fun e => by rw [e, hD] at h1; cases h1
        exact kp.none b o (by rw [upd_ne hne]; exact h1) (fun q => by
          rcases q with q | q
          · exact k1.none b o h n q
          · exact hne q) (.inl m)
end
end Dx

end
section -- Dl
set_option maxRecDepth 100000
set_option maxHeartbeats 4000000
/-! Left-overs of the walk. -/
namespace Dx
open PySem PySem.Spec L2 Sx
open PyProof.Rows hiding St
section
variable {X : Cx} {F : Fx} {e a b c l o tg iter elt : Expr} {es ifs : List Expr} {st : Stmt} {sts body : List Stmt} {ρ ρ' ρ1 : En} {σ : St} {H H' : Hp} {pos p pos' apos np fp p' pk : Pos} {x k : Str} {d d0 : D} {v u : V} {i j : Int} {E : DEnds} {Q : DQ} {QB : Bool → En → Prop} {K : List D → En → Prop}
theorem dss_env (h : ρ = ρ') (q : DSs X F sts E ρ') : DSs X F sts E ρ := by rw [h]; exact q
theorem de_env (h : ρ = ρ') (q : DE X F e ρ' Q) : DE X F e ρ Q := by rw [h]; exact q
theorem dt_env (h : ρ = ρ') (q : DT X F e ρ' QB) : DT X F e ρ QB := by rw [h]; exact q
theorem dg_env {N : En → Prop} (h : ρ = ρ') (q : DG X F e d ρ' N) : DG X F e d ρ N := by rw [h]; exact q
theorem dgs_env {N : En → Prop} {ds : List D} (h : ρ = ρ') (q : DGs X F es ds ρ' N) : DGs X F es ds ρ N := by rw [h]; exact q
theorem dte_nil {scope : Scope} (q : QB true ρ) : DTe X F scope [] ρ QB := q
theorem dte_one {scope : Scope} (q : InB X scope fun Y => DT Y F c ρ QB) : DTe X F scope [c] ρ QB := q
theorem turn0 {scope : Scope} {n : Nat} {kp : Pos} {K : Bool → En → Prop} (hN : X.N.Nodup) (hk : X.N[n]? = some k) (hx : InB X scope fun Y => Loc Y.env.scope k) (hf : InB X scope fun Y => Y.fn k = true ∨ Y.env.scope.names.lookup k = some .local) (h : (wipeE ρ [n]).set n (some d) = ρ') (q : K true ρ') :
    InB X scope fun Y => DV Y F [n] (.Name k kp) d (wipeE ρ [n]) fun ρ1 => DTe X F scope [] ρ1 K := fun s H0 C cl fp => dv_name hN hk (List.mem_singleton.mpr rfl) (hx s H0 C cl fp) (hf s H0 C cl fp) (by rw [h]; exact q)
theorem turn1 {scope : Scope} {n : Nat} {kp : Pos} {K : Bool → En → Prop} (hN : X.N.Nodup) (hk : X.N[n]? = some k) (hx : InB X scope fun Y => Loc Y.env.scope k) (hf : InB X scope fun Y => Y.fn k = true ∨ Y.env.scope.names.lookup k = some .local) (h : (wipeE ρ [n]).set n (some d) = ρ') (q : InB X scope fun Y => DT Y F c ρ' K) :
    InB X scope fun Y => DV Y F [n] (.Name k kp) d (wipeE ρ [n]) fun ρ1 => DTe X F scope [c] ρ1 K := fun s H0 C cl fp => dv_name hN hk (List.mem_singleton.mpr rfl) (hx s H0 C cl fp) (hf s H0 C cl fp) (by rw [h]; exact q)
theorem dp_none {QP : Option Int → En → Prop} (q : QP none ρ) : DP X F none ρ QP := q
theorem dp_some {QP : Option Int → En → Prop} (q : DE X F e ρ fun x ρ1 => ∃ i, x = .int i ∧ QP (some i) ρ1) : DP X F (some e) ρ QP := q
theorem exI {A : Int → Prop} (q : A i) : ∃ k, D.int i = .int k ∧ A k := ⟨i, rfl, q⟩
theorem exB {t : Bool} {A : Bool → Prop} (q : A t) : ∃ k, D.bl t = .bl k ∧ A k := ⟨t, rfl, q⟩
theorem exVals {as : List Ag} {ds : List D} {A : List D → Prop} (h : agV as = some ds) (q : A ds) : ∃ ds, agV as = some ds ∧ A ds := ⟨ds, h, q⟩
theorem exLen {as : List Ag} {ds : List D} {A : List D → Prop} (h : agV as = some ds) (hl : ds.length ≤ sizeLine) (q : A ds) : ∃ ds, agV as = some ds ∧ ds.length ≤ sizeLine ∧ A ds := ⟨ds, h, hl, q⟩
theorem exIx {N : List Str} {d1 : D} {ds : List D} {A : D → Prop} (h : (N.zip ρ).lookup x = some (some d1)) (hi : d1.items = some ds) (ha : atI ds i = some d) (q : A d) : ∃ i' d1 ds d, D.int i = .int i' ∧ (N.zip ρ).lookup x = some (some d1) ∧ d1.items = some ds ∧ atI ds i' = some d ∧ A d := ⟨i, d1, ds, d, rfl, h, hi, ha, q⟩
theorem exSub {N : List Str} {d1 : D} {ds : List D} {n : Nat} {A : Nat → D → List D → Prop} (h : (N.zip ρ).lookup x = some (some d1)) (hi : d1.mutIs = some ds) (ha : ixN ds.length i = some n) (q : A n d1 ds) : ∃ i' k d1 ds, D.int i = .int i' ∧ (N.zip ρ).lookup x = some (some d1) ∧ d1.mutIs = some ds ∧ ixN ds.length i' = some k ∧ A k d1 ds := ⟨i, n, d1, ds, rfl, h, hi, ha, q⟩
theorem exApp {N : List Str} {d1 : D} {ds : List D} {A : D → List D → Prop} (h : (N.zip ρ).lookup x = some (some d1)) (hi : d1.mutIs = some ds) (hl : ds.length < sizeLine) (q : A d1 ds) : ∃ d1 ds, (N.zip ρ).lookup x = some (some d1) ∧ d1.mutIs = some ds ∧ ds.length < sizeLine ∧ A d1 ds := ⟨d1, ds, h, hi, hl, q⟩
theorem small8999 {j : Int} (h : j < 2 ^ 62) : j < 2 ^ 8999 := Int.lt_of_lt_of_le h (by decide +kernel)
/-- a comprehension with one name -/
theorem d_lc1 {scope : Scope} {n : Nat} (hk : X.N[n]? = some k) (hc : X.calm = true) (hN : X.N.Nodup) (ok : blkN X.N X.env.scope scope [k] = true) (hl : ifs.length ≤ 1) (hs : ∀ x, foldedSetIterable iter X.env x = pure x)
    (q : DI X F (.Name k pk) iter ρ fun ds ρ1 => ∀ hs D', DLc X ((F.also hs).out D') scope [n] (.Name k pk) ifs elt ds [] ρ1 fun acc ρ2 => Q (.own acc) ρ2) : DE X F (.ListComp elt [⟨.Name k pk, iter, ifs, 0⟩] scope pos) ρ Q :=
  d_lc (own := [(k, n)]) hc hN (blkOk_of (own1 hk) ok) hl hs q
/-- the turns by an invariant -/
theorem dlc_inv {scope : Scope} {vs : List Nat} {xs : List D} (I : Nat → List D → En → Prop) (h0 : I 0 [] ρ) {K : List D → En → Prop} (hs : ∀ m d acc ρ, xs[m]? = some d → I m acc ρ → InB X scope fun Y => DV Y F vs tg d (wipeE ρ vs) fun ρ1 => DTe X F scope ifs ρ1 fun b ρ2 =>
      if b = true then InB X scope fun Y => DE Y F elt ρ2 fun y ρ3 => acc.length < sizeLine ∧ I (m + 1) (acc ++ [y.fz]) (wipeE ρ3 vs) else I (m + 1) acc (wipeE ρ2 vs)) (hd : ∀ acc ρ, I xs.length acc ρ → K acc ρ) : DLc X F scope vs tg ifs elt xs [] ρ K := by
  have dvm : ∀ {Y : Cx} {tg : Expr} {d : D} {ρ : En} {N N' : En → Prop}, DV Y F vs tg d ρ N → (∀ ρ, N ρ → N' ρ) → DV Y F vs tg d ρ N' := fun h k σ H v ok r => rg_mono (h σ H v ok r) fun σ' H' ⟨a, b, ρ', c, e, q⟩ => ⟨a, b, ρ', c, e, k _ q⟩
  have dtm : ∀ {ρ : En} {N N' : Bool → En → Prop}, DTe X F scope ifs ρ N → (∀ b ρ, N b ρ → N' b ρ) → DTe X F scope ifs ρ N' := by
    intro ρ N N' h k
    match ifs, h with
    | [], h => exact k _ _ h
    | [c], h => exact fun s H0 C cl fp => (h s H0 C cl fp).mono fun b ρ q => k b ρ q
  have key : ∀ (n m : Nat) (acc : List D) (ρ : En), n + m = xs.length → I m acc ρ → DLc X F scope vs tg ifs elt (xs.drop m) acc ρ K := by
    intro n
    induction n with
    | zero =>
      intro m acc ρ e h
      rw [List.drop_eq_nil_of_le (by omega)]
      rw [show m = xs.length by omega] at h
      exact hd acc ρ h
    | succ n ih =>
      intro m acc ρ e h
      have hk : m < xs.length := by omega
      have hg : xs[m]? = some xs[m] := List.getElem?_eq_getElem hk
      rw [drop_get hg]
      intro s H0 C cl fp
      refine dvm (hs m _ acc ρ hg h s H0 C cl fp) fun ρ1 q1 => dtm q1 fun b ρ2 q2 => ?_
      cases b with
      | true =>
        refine iteT ?_
        have q2 : InB X scope fun Y => DE Y F elt ρ2 fun y ρ3 => acc.length < sizeLine ∧ I (m + 1) (acc ++ [y.fz]) (wipeE ρ3 vs) := q2
        exact fun s H0 C cl fp => (q2 s H0 C cl fp).mono fun y ρ3 ⟨h1, h2⟩ => ⟨h1, ih (m + 1) _ _ (by omega) h2⟩
      | false =>
        refine iteF ?_
        exact ih (m + 1) _ _ (by omega) q2
  have := key xs.length 0 [] ρ (by omega) h0
  rwa [List.drop_zero] at this
end
end Dx

end
section -- Dm
set_option maxRecDepth 100000
set_option maxHeartbeats 4000000
/-! Objects: made, asked, put together. -/
namespace Dx
open PySem PySem.Spec L2 Sx
open PyProof.Rows hiding St
section
variable {X : Cx} {F : Fx} {e a b c l o : Expr} {es : List Expr} {ρ ρ' ρ1 : En} {σ : St} {H H' : Hp} {pos p apos fp : Pos} {x m cn : Str} {d : D} {v u : V} {i j : Int} {Q : DQ} {k : Nat} {ps : List Str} {sp : DSp} {C : Addr} {fs gs : List (Str × D)}
/-- nothing is lent: what a promise gives -/
theorem ret_none {outs : List (List D)} {t : Option Addr} (ok : Ok F H σ ρ) (R : Ret F.K F.w F.cl (Av F σ ρ) H none outs v H' d t) : Res F H' σ v d ρ ∧ Kp (Mut σ ρ) H (Mut σ ρ) H' := ret_res (l := none) (outs := outs) ok (fun _ => rfl) (fun i h => by cases h) R
theorem ofSp {vs : List V} {ds : List D} [f : Fit X F] {Q' : VK} {K' : D → List (List D) → Prop} (ok : Ok F H σ ρ) (r : F.L (Av F σ ρ) H vs ds) (q : sp ds K') (k : ∀ d outs, K' d outs → ∀ v H', Res F H' σ v d ρ → Kp (Mut σ ρ) H (Mut σ ρ) H' → Q' v H') : toSp X.K X.w F.cl sp vs H Q' E0 := by
  refine ⟨ds, Av F σ ρ, none, _, fun b h => ok.av h, ?_, q, fun d outs hq v H' t R => ?_⟩
  · rw [← f.K, ← f.w]; exact ArgsR.of r
  · rw [← f.K, ← f.w] at R
    obtain ⟨r1, r2⟩ := ret_none ok R
    exact k d outs hq v H' r1 r2
theorem Rep.insRef {K : PySem.W.Frag} {w : World} {cl : Str → Option Addr} {O : Addr → Prop} (r : Rep K w cl O H v (.ins cn fs)) : ∃ a C dx vs, v = .ref a ∧ cl cn = some C ∧ H a = some (.ins C dx vs) ∧ vs.map (·.1) = fs.map (·.1) := by
  cases r with
  | ins hc h n k r => exact ⟨_, _, _, _, rfl, hc, h, k⟩
theorem lookup_names {κ : Type} {x : Str} : ∀ {us : List (Str × κ)} {vs : List (Str × D)}, us.map (·.1) = vs.map (·.1) → vs.lookup x = none → us.lookup x = none
  | [], _, _, _ => rfl
  | (n, u) :: us, [], e, _ => by simp at e
  | (n, u) :: us, (n', v) :: vs, e, h => by
    simp at e
    obtain ⟨e1, e2⟩ := e
    subst e1
    rw [List.lookup_cons] at h ⊢
    split at h
    · cases h
    · exact lookup_names e2 h
/-- a op b of one class -/
theorem do_own {op : Operator} [f : Fit X F] (hc : F.cl cn = some C) (O : Ops X.K C) (M : MethOk X.prog X.w X.K X.mg X.base C (PySem.dunder op.info.2) k ps (toSp X.K X.w F.cl sp)) (hr : Room k X.A) (q : sp [.ins cn fs, .ins cn gs] fun d _ => Q d ρ) : DO X F (binaryOp op) (.ins cn fs) (.ins cn gs) ρ Q := fun σ H v u ok r1 r2 => by
  have s1 := r1
  have s2 := r2
  obtain ⟨a, C1, dx, vs, rfl, c1, h1, _⟩ := Rep.insRef r1
  obtain ⟨b, C2, dy, us, rfl, c2, h2, _⟩ := Rep.insRef r2
  rw [hc] at c1 c2
  cases c1
  cases c2
  exact o_own O h1 h2 M hr (ofSp ok (.cons s1 (.cons s2 .nil)) q fun d outs hq v H' r kp => ⟨d, ρ, r, kp, hq⟩)
/-- a op i, an int -/
theorem do_ownI {op : Operator} {fo ro : Option Value} [f : Fit X F] (hc : F.cl cn = some C) (O : Ops X.K C) (M : MethOk X.prog X.w X.K X.mg X.base C (PySem.dunder op.info.2) k ps (toSp X.K X.w F.cl sp)) (hr : Room k X.A)
    (h0 : PySem.W.findIn X.K (.ref C) (dunderR op.info.2) = some none) (h1 : PySem.W.findIn X.K (.type "int") (PySem.dunder op.info.2) = some fo) (h2 : PySem.W.findIn X.K (.type "int") (dunderR op.info.2) = some ro) (h3 : PySem.W.subIn X.K (.type "int") (.ref C) = some false)
    (q : sp [.ins cn fs, .int i] fun d _ => Q d ρ) : DO X F (binaryOp op) (.ins cn fs) (.int i) ρ Q := fun σ H v u ok r1 r2 => by
  have s1 := r1
  obtain ⟨a, C1, dx, vs, rfl, c1, g1, _⟩ := Rep.insRef r1
  rw [hc] at c1
  cases c1
  rw [r2.intV]
  exact o_ownI O g1 M hr h0 h1 h2 h3 (ofSp ok (.cons s1 (.cons (.int _) .nil)) q fun d outs hq v H' r kp => ⟨d, ρ, r, kp, hq⟩)
theorem du_ownNeg [f : Fit X F] (hc : F.cl cn = some C) (M : MethOk X.prog X.w X.K X.mg X.base C "__neg__" k ps (toSp X.K X.w F.cl sp)) (hr : Room k X.A) (q : sp [.ins cn fs] fun d _ => Q d ρ) : DU X F (unaryOp .USub) (.ins cn fs) ρ Q := fun σ H v ok r1 => by
  have s1 := r1
  obtain ⟨a, C1, dx, vs, rfl, c1, g1, _⟩ := Rep.insRef r1
  rw [hc] at c1
  cases c1
  exact u_ownNeg g1 M hr (ofSp ok (.cons s1 .nil) q fun d outs hq v H' r kp => ⟨d, ρ, r, kp, hq⟩)
theorem du_ownInv [f : Fit X F] (hc : F.cl cn = some C) (M : MethOk X.prog X.w X.K X.mg X.base C "__invert__" k ps (toSp X.K X.w F.cl sp)) (hr : Room k X.A) (q : sp [.ins cn fs] fun d _ => Q d ρ) : DU X F (unaryOp .Invert) (.ins cn fs) ρ Q := fun σ H v ok r1 => by
  have s1 := r1
  obtain ⟨a, C1, dx, vs, rfl, c1, g1, _⟩ := Rep.insRef r1
  rw [hc] at c1
  cases c1
  exact u_ownInv g1 M hr (ofSp ok (.cons s1 .nil) q fun d outs hq v H' r kp => ⟨d, ρ, r, kp, hq⟩)
/-- a == b, a != b by the class's __eq__ -/
theorem dc_ownEq [f : Fit X F] (hc : F.cl cn = some C) (O : Ops X.K C) (M : MethOk X.prog X.w X.K X.mg X.base C "__eq__" k ps (toSp X.K X.w F.cl sp)) (hr : Room k X.A) (q : sp [.ins cn fs, .ins cn gs] fun d _ => Q d ρ) : DO X F (compareOp .Eq) (.ins cn fs) (.ins cn gs) ρ Q := fun σ H v u ok r1 r2 => by
  have s1 := r1
  have s2 := r2
  obtain ⟨a, C1, dx, vs, rfl, c1, h1, _⟩ := Rep.insRef r1
  obtain ⟨b, C2, dy, us, rfl, c2, h2, _⟩ := Rep.insRef r2
  rw [hc] at c1 c2
  cases c1
  cases c2
  exact c_ownEq O h1 h2 M hr (ofSp ok (.cons s1 (.cons s2 .nil)) q fun d outs hq v H' r kp => ⟨d, ρ, r, kp, hq⟩)
theorem dc_ownNe [f : Fit X F] (hc : F.cl cn = some C) (M : MethOk X.prog X.w X.K X.mg X.base C "__eq__" k ps (toSp X.K X.w F.cl sp)) (hr : Room (k + 1) X.A)
    (hn : PySem.W.findIn X.K (.ref C) "__ne__" = some (some (.builtin "object.__ne__"))) (ho : PySem.W.subIn X.K (.ref C) (.type "object") = some true)
    (q : sp [.ins cn fs, .ins cn gs] fun d _ => ∃ t, d = .bl t ∧ Q (.bl (!t)) ρ) : DO X F (compareOp .NotEq) (.ins cn fs) (.ins cn gs) ρ Q := fun σ H v u ok r1 r2 => by
  have s1 := r1
  have s2 := r2
  obtain ⟨a, C1, dx, vs, rfl, c1, h1, _⟩ := Rep.insRef r1
  obtain ⟨b, C2, dy, us, rfl, c2, h2, _⟩ := Rep.insRef r2
  rw [hc] at c1 c2
  cases c1
  cases c2
  refine c_ownNe h1 h2 M hr hn ho (ofSp ok (.cons s1 (.cons s2 .nil)) q fun d outs ⟨t, hd, hq⟩ v H' r kp => ?_)
  subst hd
  exact ⟨t, r.fz.2.blV, _, ρ, .rep r.ok (.bl _), kp, hq⟩
/-- x in a -/
theorem dc_ownIn {y : D} [f : Fit X F] (hc : F.cl cn = some C) (M : MethOk X.prog X.w X.K X.mg X.base C "__contains__" k ps (toSp X.K X.w F.cl sp)) (hr : Room k X.A) (q : sp [.ins cn fs, y] fun d _ => ∃ t, d = .bl t ∧ Q (.bl t) ρ) : DO X F (compareOp .In) y (.ins cn fs) ρ Q := fun σ H v u ok r1 r2 => by
  have s2 := r2
  obtain ⟨b, C2, dy, us, rfl, c2, h2, _⟩ := Rep.insRef r2
  rw [hc] at c2
  cases c2
  refine c_ownIn h2 M hr (ofSp ok (.cons s2 (.cons r1 .nil)) q fun d outs ⟨t, hd, hq⟩ v H' r kp => ?_)
  subst hd
  exact ⟨t, r.fz.2.blV, _, ρ, .rep r.ok (.bl _), kp, hq⟩
theorem dc_ownNotIn {y : D} [f : Fit X F] (hc : F.cl cn = some C) (M : MethOk X.prog X.w X.K X.mg X.base C "__contains__" k ps (toSp X.K X.w F.cl sp)) (hr : Room k X.A) (q : sp [.ins cn fs, y] fun d _ => ∃ t, d = .bl t ∧ Q (.bl (!t)) ρ) : DO X F (compareOp .NotIn) y (.ins cn fs) ρ Q := fun σ H v u ok r1 r2 => by
  have s2 := r2
  obtain ⟨b, C2, dy, us, rfl, c2, h2, _⟩ := Rep.insRef r2
  rw [hc] at c2
  cases c2
  refine c_ownNotIn h2 M hr (ofSp ok (.cons s2 (.cons r1 .nil)) q fun d outs ⟨t, hd, hq⟩ v H' r kp => ?_)
  subst hd
  exact ⟨t, r.fz.2.blV, _, ρ, .rep r.ok (.bl _), kp, hq⟩
theorem dc_ownLen [f : Fit X F] (hc : F.cl cn = some C) (M : MethOk X.prog X.w X.K X.mg X.base C "__len__" k ps (toSp X.K X.w F.cl sp)) (hr : Room (k + 1) X.A) (q : sp [.ins cn fs] fun d _ => ∃ n : Int, d = .int n ∧ (0 ≤ n ∧ n < 2 ^ 63) ∧ Q (.int n) ρ) : DC X F (.builtin "len") [.ins cn fs] ρ Q := fun σ H vs ok r => by
  cases r with
  | cons r1 t =>
    cases t
    have s1 := r1
    obtain ⟨a, C1, dx, vs, rfl, c1, g1, _⟩ := Rep.insRef r1
    rw [hc] at c1
    cases c1
    refine b_ownLen g1 M hr (ofSp ok (.cons s1 .nil) q fun d outs ⟨n, hd, hn, hq⟩ v H' r kp => ?_)
    subst hd
    exact ⟨n, r.fz.2.intV, hn, _, ρ, .rep r.ok (.int _), kp, hq⟩
theorem dc_ownStr [f : Fit X F] (hc : F.cl cn = some C) (M : MethOk X.prog X.w X.K X.mg X.base C "__str__" k ps (toSp X.K X.w F.cl sp)) (hr : Room (k + 2) X.A) (q : sp [.ins cn fs] fun d _ => ∃ z : Str, d = .str z ∧ Q (.str z) ρ) : DC X F (.type "str") [.ins cn fs] ρ Q := fun σ H vs ok r => by
  cases r with
  | cons r1 t =>
    cases t
    have s1 := r1
    obtain ⟨a, C1, dx, vs, rfl, c1, g1, _⟩ := Rep.insRef r1
    rw [hc] at c1
    cases c1
    refine b_ownStr g1 M hr (ofSp ok (.cons s1 .nil) q fun d outs ⟨n, hd, hq⟩ v H' r kp => ?_)
    subst hd
    exact ⟨n, r.fz.2.strV, _, ρ, .rep r.ok (.str _), kp, hq⟩
theorem dc_ownRepr [f : Fit X F] (hc : F.cl cn = some C) (M : MethOk X.prog X.w X.K X.mg X.base C "__repr__" k ps (toSp X.K X.w F.cl sp)) (hr : Room (k + 1) X.A) (q : sp [.ins cn fs] fun d _ => ∃ z : Str, d = .str z ∧ Q (.str z) ρ) : DC X F (.builtin "repr") [.ins cn fs] ρ Q := fun σ H vs ok r => by
  cases r with
  | cons r1 t =>
    cases t
    have s1 := r1
    obtain ⟨a, C1, dx, vs, rfl, c1, g1, _⟩ := Rep.insRef r1
    rw [hc] at c1
    cases c1
    refine b_ownRepr g1 M hr (ofSp ok (.cons s1 .nil) q fun d outs ⟨n, hd, hq⟩ v H' r kp => ?_)
    subst hd
    exact ⟨n, r.fz.2.strV, _, ρ, .rep r.ok (.str _), kp, hq⟩
/-- a.f, a property -/
theorem d_prop [f : Fit X F] (hc : F.cl cn = some C) (M : PropOk X.prog X.w X.K X.mg X.base C x k ps (toSp X.K X.w F.cl sp)) (c : Cls X.K C) (hr : Room (k + 1) X.A) (hab : attributeBase e x X.env (eval e X.env) = eval e X.env)
    (q : DE X F e ρ fun d ρ1 => ∃ fs, d = .ins cn fs ∧ sp [.ins cn fs] fun r _ => Q r ρ1) : DE X F (.Attribute e x pos) ρ Q := fun σ H ok => by
  refine e_propOk M c hr hab (de_run q ok fun v H1 d ρ1 ok1 r1 k1 ⟨fs, hd, q⟩ => ?_)
  subst hd
  have s1 := r1
  obtain ⟨a, C1, dx, vs, rfl, c1, g1, _⟩ := Rep.insRef r1
  rw [hc] at c1
  cases c1
  exact ⟨a, dx, vs, rfl, g1, ofSp ok1 (.cons s1 .nil) q fun d outs hq v H' r kp => ⟨d, ρ1, r, k1.trans kp, hq⟩⟩
/-- a.m(e, ..) -/
theorem d_meth {pl : Sem Bool} [f : Fit X F] (hc : F.cl cn = some C) (M : MethOk X.prog X.w X.K X.mg X.base C m k ps (toSp X.K X.w F.cl sp)) (c : Cls X.K C) (hr : Room k X.A)
    (hst : starEach (e :: es) X.env = (false, eval e X.env) :: starEach es X.env) (hpl : (backTo pos (starEach es X.env)).any (·.1) = false)
    (ht : eval (.Call (.Attribute o m apos) (e :: es) [] pos) X.env = (do let z ← eval o X.env; standAt apos.atName; let (y, first) ← holding [z] (getMethod z m pl); callWith pos y first (backTo pos (starEach (e :: es) X.env)) (backToKw pos (keywordEach [] X.env))))
    (q : DE X F o ρ fun d ρ1 => ∃ fs, d = .ins cn fs ∧ fs.lookup m = none ∧ DA X F (e :: es) ρ1 fun as ρ2 => ∃ ds, agV as = some ds ∧ sp (.ins cn fs :: ds) fun r _ => Q r ρ2) : DE X F (.Call (.Attribute o m apos) (e :: es) [] pos) ρ Q := fun σ H ok => by
  refine e_meth c M hr hst hpl ht (de_run q ok fun v H1 d ρ1 ok1 r1 k1 ⟨fs, hd, hm, q⟩ => ?_)
  subst hd
  have s1 := r1
  obtain ⟨a, C1, dx, vs, rfl, c1, g1, g2⟩ := Rep.insRef r1
  rw [hc] at c1
  cases c1
  refine ⟨a, dx, vs, rfl, g1, lookup_names g2 hm, ra_mono (q σ H1 ok1) fun us H2 ⟨as, ρ2, ok2, ps, k2, ds, e, q⟩ => ?_⟩
  exact ofSp ok2 (.cons (Rep.step k2.mut s1) (ps.vals e)) q fun d outs hq v H' r kp => ⟨d, ρ2, r, (k1.trans k2).trans kp, hq⟩
theorem d_meth0 {pl : Sem Bool} [f : Fit X F] (hc : F.cl cn = some C) (M : MethOk X.prog X.w X.K X.mg X.base C m k ps (toSp X.K X.w F.cl sp)) (c : Cls X.K C) (hr : Room k X.A)
    (ht : eval (.Call (.Attribute o m apos) [] [] pos) X.env = (do let z ← eval o X.env; standAt apos.atName; let (y, first) ← holding [z] (getMethod z m pl); callWith pos y first (backTo pos (starEach [] X.env)) (backToKw pos (keywordEach [] X.env))))
    (q : DE X F o ρ fun d ρ1 => ∃ fs, d = .ins cn fs ∧ fs.lookup m = none ∧ sp [.ins cn fs] fun r _ => Q r ρ1) : DE X F (.Call (.Attribute o m apos) [] [] pos) ρ Q := fun σ H ok => by
  refine e_meth0 c M hr ht (de_run q ok fun v H1 d ρ1 ok1 r1 k1 ⟨fs, hd, hm, q⟩ => ?_)
  subst hd
  have s1 := r1
  obtain ⟨a, C1, dx, vs, rfl, c1, g1, g2⟩ := Rep.insRef r1
  rw [hc] at c1
  cases c1
  exact ⟨a, dx, vs, rfl, g1, lookup_names g2 hm, ofSp ok1 (.cons s1 .nil) q fun d outs hq v H' r kp => ⟨d, ρ1, r, k1.trans kp, hq⟩⟩
/-- a.m(k=e) -/
theorem d_methK {kw : Str} {kpos : Pos} {pl : Sem Bool} [f : Fit X F] (hc : F.cl cn = some C) (c : Cls X.K C) (M : MethKOk X.prog X.w X.K X.mg X.base C m kw k ps (toSp X.K X.w F.cl sp)) (hr : Room k X.A)
    (ht : eval (.Call (.Attribute o m apos) [] [⟨some kw, e, kpos⟩] pos) X.env = (do let z ← eval o X.env; standAt apos.atName; let (y, first) ← holding [z] (getMethod z m pl); callWith pos y first (backTo pos (starEach [] X.env)) (backToKw pos (keywordEach [⟨some kw, e, kpos⟩] X.env))))
    (hall : ((backToKw pos (keywordEach [⟨some kw, e, kpos⟩] X.env)).all fun x => x.1.isSome) = true) (hks : (backToKw pos (keywordEach [⟨some kw, e, kpos⟩] X.env)).filterMap (fun x => x.1) = [kw]) (hpl : (((backTo pos (starEach [] X.env)).any fun x => x.1) || (backToKw pos (keywordEach [⟨some kw, e, kpos⟩] X.env)).any fun x => x.1.isNone) = false)
    (q : DE X F o ρ fun d ρ1 => ∃ fs, d = .ins cn fs ∧ fs.lookup m = none ∧ DE X F e ρ1 fun y ρ2 => sp [.ins cn fs, y.fz] fun r _ => Q r ρ2) : DE X F (.Call (.Attribute o m apos) [] [⟨some kw, e, kpos⟩] pos) ρ Q := fun σ H ok => by
  refine e_methK c M hr ht hall hks hpl (de_run q ok fun v H1 d ρ1 ok1 r1 k1 ⟨fs, hd, hm, q⟩ => ?_)
  subst hd
  have s1 := r1
  obtain ⟨a, C1, dx, vs, rfl, c1, g1, g2⟩ := Rep.insRef r1
  rw [hc] at c1
  cases c1
  refine ⟨a, dx, vs, rfl, g1, lookup_names g2 hm, de_run q ok1 fun u H2 y ρ2 ok2 r2 k2 q => ?_⟩
  exact ofSp ok2 (.cons (Rep.step k2.mut s1) (.cons r2 .nil)) q fun d outs hq v H' r kp => ⟨d, ρ2, r, (k1.trans k2).trans kp, hq⟩
/-- C(e, ..): a new object, by what its __init__ promises -/
structure DMake (X : Cx) (F : Fx) (x : Str) (k : Nat) (sp : DSp) : Prop where
  run : ∀ {e : Expr} {es : List Expr} {fp pos : Pos} {σ : St} {H : Hp} {ρ : En} {Q : DQ}, Ok F H σ ρ → Room k X.A → Gl X x → starEach (e :: es) X.env = (false, eval e X.env) :: starEach es X.env → (backTo pos (starEach es X.env)).any (·.1) = false →
    (RA X (e :: es) σ H fun vs H1 => ∃ ds ρ1, Ok F H1 σ ρ1 ∧ F.L (Av F σ ρ1) H1 vs ds ∧ Kp (Mut σ ρ) H (Mut σ ρ1) H1 ∧ sp ds fun d _ => Q d ρ1) →
    RE X (.Call (.Name x fp) (e :: es) [] pos) σ H fun v H' => ∃ d ρ', Res F H' σ v d ρ' ∧ Kp (Mut σ ρ) H (Mut σ ρ') H' ∧ Q d ρ'
theorem d_make (M : DMake X F x k sp) (hr : Room k X.A) (hg : Gl X x) (he : starEach (e :: es) X.env = (false, eval e X.env) :: starEach es X.env) (hpl : (backTo pos (starEach es X.env)).any (·.1) = false)
    (q : DA X F (e :: es) ρ fun as ρ1 => ∃ ds, agV as = some ds ∧ sp ds fun d _ => Q d ρ1) : DE X F (.Call (.Name x fp) (e :: es) [] pos) ρ Q := fun σ H ok =>
  M.run ok hr hg he hpl (ra_mono (q σ H ok) fun vs H1 ⟨as, ρ1, ok1, ps, k1, ds, e, q⟩ => ⟨ds, ρ1, ok1, ps.vals e, k1, q⟩)
end
end Dx

end
section -- Dn
set_option maxRecDepth 100000
set_option maxHeartbeats 4000000
/-! == of data, in. -/
namespace Dx
open PySem PySem.Spec L2 Sx
open PyProof.Rows hiding St
mutual
def D.dat : D → Option PyData
  | .non => some .none
  | .bl b => some (.bool b)
  | .int i => some (.int i)
  | .str x => some (.str x)
  | .tup xs => (datL xs).map .tuple
  | .lst xs => (datL xs).map .list
  | .own xs => (datL xs).map .list
  | .scr xs => (datL xs).map .list
  | _ => none
def datL : List D → Option (List PyData)
  | [] => some []
  | d :: ds => match d.dat, datL ds with
    | some x, some xs => some (x :: xs)
    | _, _ => none
end
section
variable {K : PySem.W.Frag} {w : World} {cl : Str → Option Addr} {O : Addr → Prop} {H : Hp}
mutual
theorem Rep.dp : ∀ {v : V} {d : D} {p : PyData}, Rep K w cl O H v d → d.dat = some p → Dp K H v p
  | _, _, _, .non, e => by simp [D.dat] at e; subst e; exact .non
  | _, _, _, .bl b, e => by simp [D.dat] at e; subst e; exact .bl b
  | _, _, _, .int i, e => by simp [D.dat] at e; subst e; exact .int i
  | _, _, _, .str x, e => by simp [D.dat] at e; subst e; exact .str x
  | _, _, _, .ty x, e => by simp [D.dat] at e
  | _, _, _, .at_ x, e => by simp [D.dat] at e
  | _, _, _, .tup h n r, e => by
    simp only [D.dat] at e
    obtain ⟨ps, e1, rfl⟩ := Option.map_eq_some_iff.mp e
    exact .tup (.inl h) (RepL.dp r e1)
  | _, _, _, .tupK h r, e => by
    simp only [D.dat] at e
    obtain ⟨ps, e1, rfl⟩ := Option.map_eq_some_iff.mp e
    exact .tup (h H) (RepL.dp r e1)
  | _, _, _, .lst h n r, e => by
    simp only [D.dat] at e
    obtain ⟨ps, e1, rfl⟩ := Option.map_eq_some_iff.mp e
    exact .lst (.inl (.inl h)) (RepL.dp r e1)
  | _, _, _, .scr h n r, e => by
    simp only [D.dat] at e
    obtain ⟨ps, e1, rfl⟩ := Option.map_eq_some_iff.mp e
    exact .lst (.inl h) (RepL.dp r e1)
  | _, _, _, .scrK h r, e => by
    simp only [D.dat] at e
    obtain ⟨ps, e1, rfl⟩ := Option.map_eq_some_iff.mp e
    exact .lst (h H) (RepL.dp r e1)
  | _, _, _, .set _ _ _ _, e => by simp [D.dat] at e
  | _, _, _, .dct _ _ _ _, e => by simp [D.dat] at e
  | _, _, _, .ins _ _ _ _ _, e => by simp [D.dat] at e
theorem RepL.dp : ∀ {vs : List V} {ds : List D} {ps : List PyData}, RepL K w cl O H vs ds → datL ds = some ps → DpAll K H vs ps
  | _, _, _, .nil, e => by simp [datL] at e; subst e; exact .nil
  | _, _, _, .cons r t, e => by
    simp only [datL] at e
    split at e
    · rename_i x xs e1 e2
      cases e
      exact .cons (Rep.dp r e1) (RepL.dp t e2)
    · cases e
end
end
section
variable {X : Cx} {F : Fx} {ρ : En} {Q : DQ} {d e : D} {p q : PyData} {k : Nat} {i : Int} {ns : List Int}
theorem dc_eqD [f : Fit X F] (hr : Room k X.A) (h1 : d.dat = some p) (h2 : e.dat = some q) (s1 : SeqAt.shaped p = true) (s2 : SeqAt.shaped q = true) (z : Q (.bl (PyData.eqv p q)) ρ) : DO X F (compareOp .Eq) d e ρ Q := fun σ H v u ok r1 r2 => by
  refine c_eqD hr ?_ ?_ s1 s2 (res_same ok (.bl _) z)
  · rw [← f.K]; exact Rep.dp r1 h1
  · rw [← f.K]; exact Rep.dp r2 h2
theorem dc_neD [f : Fit X F] (hr : Room k X.A) (h1 : d.dat = some p) (h2 : e.dat = some q) (s1 : SeqAt.shaped p = true) (s2 : SeqAt.shaped q = true) (z : Q (.bl (!PyData.eqv p q)) ρ) : DO X F (compareOp .NotEq) d e ρ Q := fun σ H v u ok r1 r2 => by
  refine c_neD hr ?_ ?_ s1 s2 (res_same ok (.bl _) z)
  · rw [← f.K]; exact Rep.dp r1 h1
  · rw [← f.K]; exact Rep.dp r2 h2
theorem eqv_self {p : PyData} (s : SeqAt.shaped p = true) : PyData.eqv p p = true := SeqAt.eqv_refl p (by unfold SeqAt.shaped at s; simp at s; exact s.1)
theorem dc_eqSame [f : Fit X F] (hr : Room k X.A) (he : d = e) (h1 : d.dat = some p) (s1 : SeqAt.shaped p = true) (z : Q (.bl true) ρ) : DO X F (compareOp .Eq) d e ρ Q := by
  subst he
  refine dc_eqD hr h1 h1 s1 s1 ?_
  rw [eqv_self s1]
  exact z
theorem dc_neSame [f : Fit X F] (hr : Room k X.A) (he : d = e) (h1 : d.dat = some p) (s1 : SeqAt.shaped p = true) (z : Q (.bl false) ρ) : DO X F (compareOp .NotEq) d e ρ Q := by
  subst he
  refine dc_neD hr h1 h1 s1 s1 ?_
  rw [eqv_self s1]
  exact z
theorem datL_ints : ∀ ns : List Int, datL (ns.map D.int) = some (ns.map PyData.int)
  | [] => rfl
  | n :: ns => by simp [datL, D.dat, datL_ints ns]
theorem shaped_ints (ns : List Int) : PyData.canLayAll0 (ns.map PyData.int) = true ∧ PyData.depthAll (ns.map PyData.int) ≤ 1 := by
  induction ns with
  | nil => simp [PyData.canLayAll0, PyData.depthAll]
  | cons k r ih => simp [PyData.canLayAll0, PyData.depthAll, PyData.canLay0, PyData.depth] at ih ⊢; omega
/-- rows of rows of ints -/
theorem datL_rows : ∀ rs : List (List Int), datL (rs.map fun r => D.tup (r.map D.int)) = some (rs.map fun r => PyData.tuple (r.map PyData.int))
  | [] => rfl
  | r :: rs => by simp [datL, D.dat, datL_ints, datL_rows rs]
theorem shaped_rowsL (rs : List (List Int)) : SeqAt.shaped (.list (rs.map fun r => PyData.tuple (r.map PyData.int))) = true := by
  have h : PyData.canLayAll0 (rs.map fun r => PyData.tuple (r.map PyData.int)) = true ∧ PyData.depthAll (rs.map fun r => PyData.tuple (r.map PyData.int)) ≤ 2 := by
    induction rs with
    | nil => simp [PyData.canLayAll0, PyData.depthAll]
    | cons r rs ih =>
      have h1 := shaped_ints r
      simp [PyData.canLayAll0, PyData.depthAll, PyData.canLay0, PyData.depth] at ih h1 ⊢
      exact ⟨⟨h1.1, ih.1⟩, by have := h1.2; have := ih.2; omega⟩
  unfold SeqAt.shaped
  simp [PyData.canLay0, PyData.depth]
  exact ⟨h.1, by have := h.2; omega⟩
theorem shaped_tup (ns : List Int) : SeqAt.shaped (.tuple (ns.map PyData.int)) = true := by
  have h := shaped_ints ns
  unfold SeqAt.shaped
  simp [PyData.canLay0, PyData.depth]
  exact ⟨h.1, by have := h.2; omega⟩
/-- i in a tuple of ints -/
theorem dc_inT [f : Fit X F] (q : Q (.bl (decide (i ∈ ns))) ρ) : DO X F (compareOp .In) (.int i) (.tup (ns.map D.int)) ρ Q := fun σ H v u ok r1 r2 => by
  rw [r1.intV]
  obtain ⟨a, rfl, h⟩ := tupInts r2
  exact c_inT (by rw [← f.K]; exact h) (res_same ok (.bl _) q)
theorem dc_notInT [f : Fit X F] (q : Q (.bl (!decide (i ∈ ns))) ρ) : DO X F (compareOp .NotIn) (.int i) (.tup (ns.map D.int)) ρ Q := fun σ H v u ok r1 r2 => by
  rw [r1.intV]
  obtain ⟨a, rfl, h⟩ := tupInts r2
  exact c_notInT (by rw [← f.K]; exact h) (res_same ok (.bl _) q)
end
end Dx

end
section -- Dw
set_option maxRecDepth 100000
set_option maxHeartbeats 8000000
namespace Pk
open PySem L2 Sx Mx Dx
section
variable {P : Program} {w : World} {K : PySem.W.Frag} {mg : Str → Option Value} {base : Heap} {C : Addr} {cl : Str → Option Addr} {O : Addr → Prop} {H H' : Hp}
def nats (row : List Nat) : List D := row.map fun k : Nat => D.int k
theorem nats_int (row : List Nat) : nats row = (row.map fun z : Nat => (z : Int)).map D.int := by unfold nats; rw [List.map_map]; rfl
@[reducible] def hoursD (n : Nat) (row : List Nat) : D := .ins "Hours" [("_clock", .int n), ("_hours", .tup (nats row)), ("_mask", .int (maskN row))]
theorem repl_nats {vs : List V} {row : List Nat} (r : RepL K w cl O H vs (nats row)) : vs = rowV row := by
  rw [nats_int] at r
  rw [r.ints, List.map_map]
  rfl
theorem to_old {v : V} {n : Nat} {row : List Nat} (hc : cl "Hours" = some C) (hv : Valid n row) (r : Rep K w cl O H v (hoursD n row)) : ∃ a, v = .ref a ∧ HoursAt K C H a n row := by
  unfold hoursD at r
  cases r with
  | ins hc' h no k r =>
    rw [hc] at hc'
    cases hc'
    rename_i a dx fs
    match fs, k, r with
    | [(n1, v1), (n2, v2), (n3, v3)], k, r =>
      simp at k
      obtain ⟨rfl, rfl, rfl⟩ := k
      simp only [List.map] at r
      cases r with
      | cons r1 r =>
      cases r with
      | cons r2 r =>
      cases r with
      | cons r3 r =>
      have e1 := r1.intV
      have e3 := r3.intV
      obtain ⟨t, xs, e2, h2, h3⟩ := r2.tupRef
      subst e1
      subst e2
      subst e3
      rw [repl_nats h3] at h2
      exact ⟨a, rfl, hv, dx, t, h, h2⟩
    | [], k, _ => simp at k
    | [_], k, _ => simp at k
    | [_, _], k, _ => simp at k
    | _ :: _ :: _ :: _ :: _, k, _ => simp at k
theorem repl_of (row : List Nat) : RepL K w cl O H (rowV row) (nats row) := by
  rw [nats_int]
  have := RepL.ofInts (K := K) (w := w) (cl := cl) (O := O) (H := H) (row.map fun z : Nat => (z : Int))
  rw [List.map_map] at this
  exact this
theorem tup_of {t : Addr} {row : List Nat} (ho : ∀ b, O b → Ch H b) (g : Grow H H') (h : SqT K H' t (rowV row)) : Rep K w cl O H' (.ref t) (.tup (nats row)) := by
  rcases h with h | h
  · refine .tup h (fun q => ?_) (repl_of row)
    obtain ⟨o, h1, h2⟩ := ho t q
    have h3 := g _ _ h1
    rcases h with h | ⟨x, h⟩
    · rw [h] at h3; cases h3; cases h2
    · rw [h] at h3; cases h3; cases h2
  · exact .tupK (fun _ => .inr h) (repl_of row)
theorem of_old {p : Addr} {n : Nat} {row : List Nat} (hc : cl "Hours" = some C) (ho : ∀ b, O b → Ch H b) (g : Grow H H') (hp : H p = none) (h : HoursAt K C H' p n row) : Rep K w cl O H' (.ref p) (hoursD n row) := by
  obtain ⟨hv, dx, t, h1, h2⟩ := h
  refine .ins hc h1 (fun q => ?_) rfl (.cons (.int _) (.cons (tup_of ho g h2) (.cons (.int _) .nil)))
  obtain ⟨o, h3, _⟩ := ho p q
  rw [hp] at h3
  cases h3
theorem ret0 {v : V} {d : D} (ho : ∀ b, O b → Ch H b) (g : Grow H H') (r : Rep K w cl O H' v d) : Ret K w cl O H none [] v H' d none :=
  ⟨fun b o h _ => g b o h, fun b h => let ⟨o, h1, h2⟩ := ho b h; ⟨o, g _ _ h1, h2⟩, fun _ _ h => (by cases h), fun _ => r, fun _ h => (by cases h)⟩
theorem args1 {ba : Option Addr} {vs : List V} {d : D} (r : ArgsR K w cl O H ba vs [d]) (hd : d.plain = true) : ba = none ∧ ∃ v, vs = [v] ∧ Rep K w cl O H v d := by
  cases r with
  | rep r t => cases t; exact ⟨rfl, _, rfl, r⟩
  | bor _ _ _ _ => cases hd
theorem args2 {ba : Option Addr} {vs : List V} {d e : D} (r : ArgsR K w cl O H ba vs [d, e]) (hd : d.plain = true) (he : e.plain = true) : ba = none ∧ ∃ v u, vs = [v, u] ∧ Rep K w cl O H v d ∧ Rep K w cl O H u e := by
  cases r with
  | rep r t => obtain ⟨h, u, rfl, r2⟩ := args1 t he; exact ⟨h, _, u, rfl, r, r2⟩
  | bor _ _ _ _ => cases hd
/-! ### what the methods promise -/
def dBin (g : Nat → Nat → Nat → Nat) : DSp := fun ds Q => ∃ (n : Nat) (ra rb : List Nat), ds = [hoursD n ra, hoursD n rb] ∧ Valid n ra ∧ Valid n rb ∧ Q (hoursD n (bitsL (g n (maskN ra) (maskN rb)))) []
def dUn (g : Nat → Nat → Nat) : DSp := fun ds Q => ∃ (n : Nat) (ra : List Nat), ds = [hoursD n ra] ∧ Valid n ra ∧ Q (hoursD n (bitsL (g n (maskN ra)))) []
def dNum (g : Nat → Nat → Int → Nat) : DSp := fun ds Q => ∃ (n : Nat) (ra : List Nat) (i : Int), ds = [hoursD n ra, .int i] ∧ Valid n ra ∧ Q (hoursD n (bitsL (g n (maskN ra) i))) []
def dEq : DSp := fun ds Q => ∃ (n m : Nat) (ra rb : List Nat), ds = [hoursD n ra, hoursD m rb] ∧ Valid n ra ∧ Valid m rb ∧ Q (.bl (decide (n = m ∧ ra = rb))) []
def dGetN : DSp := fun ds Q => ∃ (n : Nat) (ra : List Nat), ds = [hoursD n ra] ∧ Valid n ra ∧ Q (.int n) []
def dGetH : DSp := fun ds Q => ∃ (n : Nat) (ra : List Nat), ds = [hoursD n ra] ∧ Valid n ra ∧ Q (.tup (nats ra)) []
def dMk : DSp := fun ds Q => ∃ (n : Nat) (ra : List Nat), ds = [.int n, .tup (nats ra)] ∧ Valid n ra ∧ Q (hoursD n ra) []
theorem w_bin {g : Nat → Nat → Nat → Nat} (hc : cl "Hours" = some C) : ∀ vs H Q E, toSp K w cl (dBin g) vs H Q E → spBin K C g vs H Q E := by
  rintro vs H Q E ⟨ds, O, ba, K', ho, r, ⟨n, ra, rb, rfl, va, vb, k⟩, hk⟩
  obtain ⟨rfl, v, u, rfl, r1, r2⟩ := args2 r rfl rfl
  obtain ⟨a, rfl, h1⟩ := to_old hc va r1
  obtain ⟨b, rfl, h2⟩ := to_old hc vb r2
  exact ⟨a, b, n, ra, rb, rfl, h1, h2, fun p H' g hp h => hk _ _ k _ H' none (ret0 ho g (of_old hc ho g hp h))⟩
theorem w_un {g : Nat → Nat → Nat} (hc : cl "Hours" = some C) : ∀ vs H Q E, toSp K w cl (dUn g) vs H Q E → spUn K C g vs H Q E := by
  rintro vs H Q E ⟨ds, O, ba, K', ho, r, ⟨n, ra, rfl, va, k⟩, hk⟩
  obtain ⟨rfl, v, rfl, r1⟩ := args1 r rfl
  obtain ⟨a, rfl, h1⟩ := to_old hc va r1
  exact ⟨a, n, ra, rfl, h1, fun p H' g hp h => hk _ _ k _ H' none (ret0 ho g (of_old hc ho g hp h))⟩
theorem w_num {g : Nat → Nat → Int → Nat} (hc : cl "Hours" = some C) : ∀ vs H Q E, toSp K w cl (dNum g) vs H Q E → spNum K C g vs H Q E := by
  rintro vs H Q E ⟨ds, O, ba, K', ho, r, ⟨n, ra, i, rfl, va, k⟩, hk⟩
  obtain ⟨rfl, v, u, rfl, r1, r2⟩ := args2 r rfl rfl
  obtain ⟨a, rfl, h1⟩ := to_old hc va r1
  rw [r2.intV]
  exact ⟨a, i, n, ra, rfl, h1, fun p H' g hp h => hk _ _ k _ H' none (ret0 ho g (of_old hc ho g hp h))⟩
theorem w_eq (hc : cl "Hours" = some C) : ∀ vs H Q E, toSp K w cl dEq vs H Q E → spEq K C vs H Q E := by
  rintro vs H Q E ⟨ds, O, ba, K', ho, r, ⟨n, m, ra, rb, rfl, va, vb, k⟩, hk⟩
  obtain ⟨rfl, v, u, rfl, r1, r2⟩ := args2 r rfl rfl
  obtain ⟨a, rfl, h1⟩ := to_old hc va r1
  obtain ⟨b, rfl, h2⟩ := to_old hc vb r2
  exact ⟨a, b, n, m, ra, rb, rfl, h1, h2, hk _ _ k _ H none (ret0 ho (Grow.refl H) (.bl _))⟩
theorem w_getN (hc : cl "Hours" = some C) : ∀ vs H Q E, toSp K w cl dGetN vs H Q E → spGetN K C vs H Q E := by
  rintro vs H Q E ⟨ds, O, ba, K', ho, r, ⟨n, ra, rfl, va, k⟩, hk⟩
  obtain ⟨rfl, v, rfl, r1⟩ := args1 r rfl
  obtain ⟨a, rfl, h1⟩ := to_old hc va r1
  exact ⟨a, n, ra, rfl, h1, hk _ _ k _ H none (ret0 ho (Grow.refl H) (.int _))⟩
theorem w_getH (hc : cl "Hours" = some C) : ∀ vs H Q E, toSp K w cl dGetH vs H Q E → spGetH K C vs H Q E := by
  rintro vs H Q E ⟨ds, O, ba, K', ho, r, ⟨n, ra, rfl, va, k⟩, hk⟩
  obtain ⟨rfl, v, rfl, r1⟩ := args1 r rfl
  obtain ⟨a, rfl, h1⟩ := to_old hc va r1
  exact ⟨a, n, ra, rfl, h1, fun t ht => hk _ _ k _ H none (ret0 ho (Grow.refl H) (tup_of ho (Grow.refl H) ht))⟩
theorem MethOk.imp {m : Str} {k : Nat} {ps : List Str} {sp sp' : Sp} (M : MethOk P w K mg base C m k ps sp) (h : ∀ vs H Q E, sp' vs H Q E → sp vs H Q E) : MethOk P w K mg base C m k ps sp' := by
  obtain ⟨f, fd, F, hm, hb⟩ := M.ex
  exact ⟨f, fd, F.imp h, hm, hb⟩
theorem MethKOk.imp {m kw : Str} {k : Nat} {ps : List Str} {sp sp' : Sp} (M : MethKOk P w K mg base C m kw k ps sp) (h : ∀ vs H Q E, sp' vs H Q E → sp vs H Q E) : MethKOk P w K mg base C m kw k ps sp' := by
  obtain ⟨f, fd, F, hm, hb⟩ := M.ex
  exact ⟨f, fd, F.imp h, hm, hb⟩
theorem PropOk.imp {m : Str} {k : Nat} {ps : List Str} {sp sp' : Sp} (M : PropOk P w K mg base C m k ps sp) (h : ∀ vs H Q E, sp' vs H Q E → sp vs H Q E) : PropOk P w K mg base C m k ps sp' := by
  obtain ⟨p, g, fd, hp, F, hb⟩ := M.ex
  exact ⟨p, g, fd, hp, F.imp h, hb⟩
theorem d_mk {X : Cx} {F : Fx} [f : Fit X F] (hc : F.cl "Hours" = some C) (M : MkH X.prog X.w X.K X.mg X.base C) : DMake X F "Hours" 6 dMk where
  run := fun {e es fp pos σ H ρ Q} ok hr hg he hpl q => by
    refine e_make M hr hg (by decide) he hpl (ra_mono q fun vs H1 ⟨ds, ρ1, ok1, r, k1, n, row, hds, hv, hq⟩ => ?_)
    subst hds
    intro x dx hx hdx hne
    cases r with
    | cons r1 r =>
    cases r with
    | cons r2 r =>
    cases r
    rw [r1.intV]
    obtain ⟨t, xs, rfl, h2, h3⟩ := r2.tupRef
    rw [repl_nats h3] at h2
    rw [f.K] at h2
    refine init_use hx hdx hne hv h2 fun H' g h => ?_
    refine ⟨hoursD n row, ρ1, .rep (ok1.grow g) ?_, k1.trans (.new g), hq⟩
    rw [← f.K] at h
    exact of_old hc (fun b q => ok1.av q) g hx h
end
end Pk

end
section -- Dq
set_option maxRecDepth 100000
set_option maxHeartbeats 4000000
/-! Comprehensions that map, that choose. -/
namespace Dx
open PySem PySem.Spec L2 Sx
open PyProof.Rows hiding St
section
variable {X : Cx} {F : Fx} {elt c : Expr} {ρ ρ' : En} {kp : Pos} {k : Str} {n : Nat} {scope : Scope} {xs : List D} {K : List D → En → Prop}
/-- [f(k) for k in xs] -/
theorem dlc_map (f : D → D) (hN : X.N.Nodup) (hk : X.N[n]? = some k) (hx : InB X scope fun Y => Loc Y.env.scope k) (hf : InB X scope fun Y => Y.fn k = true ∨ Y.env.scope.names.lookup k = some .local) (hw : ρ.set n none = ρ) (hl : xs.length ≤ 100000)
    (h : ∀ d, d ∈ xs → ∀ Q : DQ, Q (f d) (ρ.set n (some d)) → InB X scope fun Y => DE Y F elt (ρ.set n (some d)) Q) (q : K (xs.map fun d => (f d).fz) ρ) : DLc X F scope [n] (.Name k kp) [] elt xs [] ρ K := by
  refine dlc_inv (fun m acc ρ' => acc = (xs.take m).map (fun d => (f d).fz) ∧ ρ' = ρ) ⟨rfl, rfl⟩ (fun m d acc ρ1 hd ⟨e1, e2⟩ => ?_) (fun acc ρ1 ⟨e1, e2⟩ => by rw [e1, e2, List.take_length]; exact q)
  subst e1
  subst e2
  have hm : d ∈ xs := List.mem_of_getElem? hd
  refine turn0 hN hk hx hf (ρ' := ρ1.set n (some d)) ?_ (iteT ?_)
  · show (ρ1.set n none).set n (some d) = _
    rw [List.set_set]
  · refine h d hm _ ⟨?_, ?_, ?_⟩
    · rw [List.length_map]
      exact Nat.lt_of_le_of_lt (Nat.le_trans (List.length_take_le' _ _) hl) (by decide)
    · rw [List.take_add_one, hd, List.map_append]
      rfl
    · show (ρ1.set n (some d)).set n none = ρ1
      rw [List.set_set, hw]
/-- [f(k) for k in xs if p(k)] -/
theorem dlc_mf (p : D → Bool) (f : D → D) (hN : X.N.Nodup) (hk : X.N[n]? = some k) (hx : InB X scope fun Y => Loc Y.env.scope k) (hf : InB X scope fun Y => Y.fn k = true ∨ Y.env.scope.names.lookup k = some .local) (hw : ρ.set n none = ρ) (hl : xs.length ≤ 100000)
    (h1 : ∀ d, d ∈ xs → ∀ Q : Bool → En → Prop, Q (p d) (ρ.set n (some d)) → InB X scope fun Y => DT Y F c (ρ.set n (some d)) Q)
    (h : ∀ d, d ∈ xs → ∀ Q : DQ, Q (f d) (ρ.set n (some d)) → InB X scope fun Y => DE Y F elt (ρ.set n (some d)) Q) (q : K ((xs.filter p).map fun d => (f d).fz) ρ) : DLc X F scope [n] (.Name k kp) [c] elt xs [] ρ K := by
  refine dlc_inv (fun m acc ρ' => acc = ((xs.take m).filter p).map (fun d => (f d).fz) ∧ ρ' = ρ) ⟨rfl, rfl⟩ (fun m d acc ρ1 hd ⟨e1, e2⟩ => ?_) (fun acc ρ1 ⟨e1, e2⟩ => by rw [e1, e2, List.take_length]; exact q)
  subst e1
  subst e2
  have hm : d ∈ xs := List.mem_of_getElem? hd
  have hb : (ρ1.set n (some d)).set n none = ρ1 := by rw [List.set_set, hw]
  refine turn1 hN hk hx hf (ρ' := ρ1.set n (some d)) ?_ (h1 d hm _ ?_)
  · show (ρ1.set n none).set n (some d) = _
    rw [List.set_set]
  · cases hp : p d with
    | true =>
      refine iteT ?_
      refine h d hm _ ⟨?_, ?_, hb⟩
      · rw [List.length_map]
        exact Nat.lt_of_le_of_lt (Nat.le_trans (List.length_filter_le _ _) (Nat.le_trans (List.length_take_le' _ _) hl)) (by decide)
      · rw [List.take_add_one, hd, List.filter_append, List.map_append]
        simp [hp]
    | false =>
      refine iteF ⟨?_, hb⟩
      rw [List.take_add_one, hd, List.filter_append, List.map_append]
      simp [hp]
end
section
variable {X : Cx} {F : Fx} {a b c : Expr} {ρ : En} {E : DEnds} {x y z : Str} {px py pz pt pos pt2 : Pos} {kt k2 : Nat}
/-- x, y = a, b, stored one by one -/
theorem ds_par (hc : X.calm = true) (hN : X.N.Nodup) (hi : X.N.contains x = true) (hj : X.N.contains y = true) (hxy : x ≠ y) (hx : X.env.scope.names.lookup x = some .local) (hy : X.env.scope.names.lookup y = some .local)
    (hw : swappedStores [.Tuple [.Name x px, .Name y py] kt pt] (.Tuple [a, b] k2 pt2) X.env = pure (some [x, y])) (hs : swapsWithSole [.Tuple [.Name x px, .Name y py] kt pt] (.Tuple [a, b] k2 pt2) pos.line X.env = pure false)
    (q : DA X F [a, b] ρ fun as ρ1 => ∃ u v, agV as = some [u, v] ∧ E.nx (setE X.N (setE X.N ρ1 x (some u)) y (some v))) : DS X F (.Assign [.Tuple [.Name x px, .Name y py] kt pt] (.Tuple [a, b] k2 pt2) pos) E ρ := fun σ H ok => by
  obtain ⟨i, h1⟩ := idx_of hi
  obtain ⟨j, h2⟩ := idx_of hj
  refine s_par (pz := px) hc hN hi hj hxy hx hy hw hs (ra_mono (q σ H ok) fun vs H1 ⟨as, ρ1, ok1, ps, k1, u, v, e, q⟩ => ?_)
  have r := ps.vals e
  rw [setE_eq h1 hN, setE_eq h2 hN] at q
  cases r with
  | cons r1 r =>
  cases r with
  | cons r2 r =>
  cases r
  refine ⟨_, _, rfl, ?_⟩
  rw [setN_eq h1 hN, setN_eq h2 hN]
  exact ⟨_, (ok1.set r1).set (Rep.step (Kp.set r1) r2), q⟩
theorem ds_par3 (hc : X.calm = true) (hN : X.N.Nodup) (hi : X.N.contains x = true) (hj : X.N.contains y = true) (hl : X.N.contains z = true) (hxy : x ≠ y) (hxz : x ≠ z) (hyz : y ≠ z) (hx : X.env.scope.names.lookup x = some .local) (hy : X.env.scope.names.lookup y = some .local) (hz : X.env.scope.names.lookup z = some .local)
    (hw : swappedStores [.Tuple [.Name x px, .Name y py, .Name z pz] kt pt] (.Tuple [a, b, c] k2 pt2) X.env = pure (some [x, y, z])) (hs : swapsWithSole [.Tuple [.Name x px, .Name y py, .Name z pz] kt pt] (.Tuple [a, b, c] k2 pt2) pos.line X.env = pure false)
    (q : DA X F [a, b, c] ρ fun as ρ1 => ∃ u v w, agV as = some [u, v, w] ∧ E.nx (setE X.N (setE X.N (setE X.N ρ1 x (some u)) y (some v)) z (some w))) : DS X F (.Assign [.Tuple [.Name x px, .Name y py, .Name z pz] kt pt] (.Tuple [a, b, c] k2 pt2) pos) E ρ := fun σ H ok => by
  obtain ⟨i, h1⟩ := idx_of hi
  obtain ⟨j, h2⟩ := idx_of hj
  obtain ⟨k, h3⟩ := idx_of hl
  refine s_par3 hc hN hi hj hl hxy hxz hyz hx hy hz hw hs (ra_mono (q σ H ok) fun vs H1 ⟨as, ρ1, ok1, ps, k1, u, v, w, e, q⟩ => ?_)
  have r := ps.vals e
  rw [setE_eq h1 hN, setE_eq h2 hN, setE_eq h3 hN] at q
  cases r with
  | cons r1 r =>
  cases r with
  | cons r2 r =>
  cases r with
  | cons r3 r =>
  cases r
  refine ⟨_, _, _, rfl, ?_⟩
  rw [setN_eq h1 hN, setN_eq h2 hN, setN_eq h3 hN]
  have s2 := Rep.step (Kp.set (k := i) r1) r2
  exact ⟨_, ((ok1.set r1).set s2).set (Rep.step (Kp.set s2) (Rep.step (Kp.set r1) r3)), q⟩
theorem exPar {as : List Ag} {u v : D} {A : D → D → Prop} (h : agV as = some [u, v]) (q : A u v) : ∃ u v, agV as = some [u, v] ∧ A u v := ⟨u, v, h, q⟩
theorem exPar3 {as : List Ag} {u v w : D} {A : D → D → D → Prop} (h : agV as = some [u, v, w]) (q : A u v w) : ∃ u v w, agV as = some [u, v, w] ∧ A u v w := ⟨u, v, w, h, q⟩
theorem brJ {k : Bool} {Q : DQ} (R : DQ) (h1 : k = true → DE X F a ρ R) (h2 : k = false → DE X F b ρ R) (q : ∀ d ρ', R d ρ' → Q d ρ') : if k = true then DE X F a ρ Q else DE X F b ρ Q := by
  cases k with
  | true => exact iteT ((h1 rfl).mono q)
  | false => exact iteF ((h2 rfl).mono q)
theorem dss_mono {sts : List Stmt} {E' : DEnds} (h : DSs X F sts E' ρ) (h1 : ∀ ρ, E'.nx ρ → E.nx ρ) (h2 : ∀ d ρ, E'.rt d ρ → E.rt d ρ) (h3 : ∀ ρ, E'.bk ρ → E.bk ρ) (h4 : ∀ ρ, E'.ct ρ → E.ct ρ) : DSs X F sts E ρ := fun σ H ok =>
  rsx_mono (h σ H ok) (fun σ H ⟨ρ, ok, q⟩ => ⟨ρ, ok, h1 ρ q⟩) (fun v H ⟨σ, d, ρ, r, q⟩ => ⟨σ, d, ρ, r, h2 d ρ q⟩) (fun σ H ⟨ρ, ok, q⟩ => ⟨ρ, ok, h3 ρ q⟩) (fun σ H ⟨ρ, ok, q⟩ => ⟨ρ, ok, h4 ρ q⟩)
theorem brJS {k : Bool} {A B : List Stmt} (M : En → Prop) (h1 : k = true → DSs X F A ⟨M, E.rt, E.bk, E.ct⟩ ρ) (h2 : k = false → DSs X F B ⟨M, E.rt, E.bk, E.ct⟩ ρ) (q : ∀ ρ', M ρ' → E.nx ρ') : if k = true then DSs X F A E ρ else DSs X F B E ρ := by
  cases k with
  | true => exact iteT (dss_mono (h1 rfl) q (fun _ _ h => h) (fun _ h => h) (fun _ h => h))
  | false => exact iteF (dss_mono (h2 rfl) q (fun _ _ h => h) (fun _ h => h) (fun _ h => h))
end
section
variable {X : Cx} {F : Fx} {e : Expr} {ρ : En} {σ : St} {H H' : Hp} {v : V} {d : D} {a : Addr} {Q : DQ}
/-- behind a call that was lent a new list -/
theorem ret_new {outs : List (List D)} {t : Option Addr} (ok : Ok (F.out a) H σ ρ) (h0 : F.H0 a = none) (no : ¬ F.Out a) (nb : ¬ F.B a) (R : Ret F.K F.w F.cl (Av (F.out a) σ ρ) H (some a) outs v H' d t) : Res F H' σ v d ρ ∧ Kp (fun b => Mut σ ρ b ∨ b = a) H (fun b => Mut σ ρ b ∨ b = a) H' := by
  have kpD : Kp (fun b => Mut σ ρ b ∨ b = a) H (fun b => Mut σ ρ b ∨ b = a) H' := ⟨fun b o h n => R.keep b o h fun e => n (.inr (Option.some.inj e).symm), fun b o h n q => n q⟩
  have tn : ∀ c, t = some c → H c = none := fun c h => by obtain ⟨_, _, _, _, h, _⟩ := R.new c h; exact h
  refine ⟨?_, kpD⟩
  have key : ∀ (F' : Fx), Like F' F → F'.held = F.held → (∀ b, F'.Out b ↔ (F.Out b ∨ t = some b)) → (∀ b, t = some b → Ch H' b) → Ok F' H' σ ρ := by
    intro F' L hh hO ht
    have kpF : Kp (Av (F.out a) σ ρ) H (Av F' σ ρ) H' := ⟨fun b o h n => R.keep b o h fun e => n (.inl (.inr (Option.some.inj e).symm)), fun b o h n q => by
      rcases q with q | q
      · rcases (hO b).mp q with q | q
        · exact n (.inl (.inl q))
        · rw [tn b q] at h; cases h
      · exact n (.inr q)⟩
    exact {
      len := ok.len
      slot := fun j x hx => by
        obtain ⟨w, e1, e2⟩ := ok.slot j x hx
        refine ⟨w, e1, ?_⟩
        cases e2 with
        | own h n o r => exact .own (R.keep _ _ h fun e => o (.inr (Option.some.inj e).symm)) (by rw [L.H0]; exact n) (fun q => by
            rcases (hO _).mp q with q | q
            · exact o (.inl q)
            · rw [tn _ q] at h; cases h) (L.L (RepL.step kpF r))
        | bor h n r => exact .bor (R.keep _ _ h fun e => nb (by rw [Option.some.inj e]; exact n)) (by rw [L.B]; exact n) (L.L (RepL.step kpF r))
        | rep r => exact .rep (L.R (Rep.step kpF r))
      dist := ok.dist
      keep := fun b o h n => by
        rw [L.H0] at h
        rw [L.B] at n
        exact R.keep b o (ok.keep b o h n) fun e => by rw [← Option.some.inj e, h0] at h; cases h
      out := fun b q => by
        rcases (hO b).mp q with q | q
        · exact R.alloc b (.inl (.inl q))
        · exact ht b q
      bo := fun b q => by
        rw [L.B] at q
        rcases ok.bo b q with h | h
        · exact (hO b).mpr (.inl h)
        · subst h; exact (nb q).elim
      held := fun q hq => by
        rw [hh] at hq
        exact q.st _ _ _ _ (ok.held q hq) kpF }
  cases ht : t with
  | none =>
    subst ht
    have okF := key F ⟨rfl, rfl, rfl, rfl, rfl⟩ rfl (fun b => ⟨fun h => .inl h, fun h => by rcases h with h | h; exact h; cases h⟩) (fun b h => by cases h)
    exact .rep okF (Rep.step (.weak fun b q => by
      rcases q with q | q
      · exact .inl (.inl q)
      · exact .inr q) (R.res rfl))
  | some c =>
    subst ht
    obtain ⟨us, ds, rfl, rfl, hc, hl, r⟩ := R.new c rfl
    have okF := key (F.out c) .out rfl (fun b => ⟨fun h => by rcases h with h | h; exact .inl h; subst h; exact .inr rfl, fun h => by rcases h with h | h; exact .inl h; cases h; exact .inr rfl⟩) (fun b h => by cases h; exact ⟨_, hl, rfl⟩)
    refine .own hl (ok.n0 hc) (fun q => ok.navn hc (.inl (.inl q))) (fun q => ok.navn hc (.inl (ok.bo c q))) (fun q => ok.navn hc (.inr q)) okF (RepL.step (.weak fun b q => ?_) r)
    rcases q with (q | q) | q
    · exact .inl (.inl (.inl q))
    · subst q; exact .inr rfl
    · exact .inl (.inr q)
/-- f(g(e, ..)): the new list that g gives is lent -/
theorem d_call2 {sp sp2 : DSp} {k k2 : Nat} {ps ps2 : List Str} {x y : Str} {fp fp2 pos pos2 : Pos} {es : List Expr} [f : Fit X F] (C : Callable X.prog X.w X.K X.mg X.base x k ps (toSp X.K X.w F.cl sp)) (C2 : Callable X.prog X.w X.K X.mg X.base y k2 ps2 (toSp X.K X.w F.cl sp2)) (hr : Room k X.A) (hr2 : Room k2 X.A) (hg : Gl X x) (hg2 : Gl X y) (hd : (x == ("__debug__" : Str)) = false) (hd2 : (y == ("__debug__" : Str)) = false)
    (he : starEach [.Call (.Name y fp2) (e :: es) [] pos2] X.env = (false, eval (.Call (.Name y fp2) (e :: es) [] pos2) X.env) :: starEach [] X.env) (he2 : starEach (e :: es) X.env = (false, eval e X.env) :: starEach es X.env) (hpl : (backTo pos (starEach [] X.env)).any (·.1) = false) (hpl2 : (backTo pos2 (starEach es X.env)).any (·.1) = false)
    (q : DA X F (e :: es) ρ fun as ρ1 => ∃ ds l, Bnd ρ1 as ds l ∧ sp2 ds fun d outs => ∃ xs, d = .own xs ∧ sp [.bor xs] fun r _ => Q r (putOut ρ1 l outs)) : DE X F (.Call (.Name x fp) [.Call (.Name y fp2) (e :: es) [] pos2] [] pos) ρ Q := fun σ H ok => by
  refine e_call C hr hg hd he hpl (a_cons he (e_call C2 hr2 hg2 hd2 he2 hpl2 (ra_mono (q σ H ok) fun vs H1 ⟨as, ρ1, ok1, ps, k1, ds, l, b, q⟩ => ?_)))
  obtain ⟨ba, a1, a2, a3⟩ := b.args ok1 ps
  refine ⟨ds, Av F σ ρ1, ba, _, fun b q => ok1.av q, by rw [f.K, f.w] at a1; exact a1, q, fun d outs ⟨xs, hxs, hq⟩ v H2 t R => a_nil ?_⟩
  rw [← f.K, ← f.w] at R
  obtain ⟨r1, r2⟩ := ret_res ok1 a2 a3 R
  subst hxs
  cases t with
  | none => exact (R.res rfl).noOwn.elim
  | some a =>
    obtain ⟨us, ds', hv, hd', hfree, hl, rl⟩ := R.new a rfl
    subst hv
    cases hd'
    cases r1 with
    | rep ok r => exact r.noOwn.elim
    | own ha h0 no nb nm ok2 rl2 =>
      refine ⟨[.bor xs], Av (F.out a) σ (putOut ρ1 l outs), some a, _, fun b h => ok2.av h, .bor (.inl (.inr rfl)) ha (by rw [← f.K, ← f.w]; exact rl2) .nil, hq, fun d outs2 hq v H' t R2 => ?_⟩
      rw [← f.K, ← f.w] at R2
      obtain ⟨r3, r4⟩ := ret_new ok2 h0 no nb R2
      have kk := k1.trans r2
      refine ⟨d, _, r3, ⟨fun b o h n => ?_, fun b o h n m => kk.none b o h n m⟩, hq⟩
      have h1 := k1.keep b o h n
      have hne : b ≠ a := fun e => by rw [e, hfree] at h1; cases h1
      exact r4.keep b o (kk.keep b o h n) (fun q => by
        rcases q with q | q
        · exact kk.none b o h n q
        · exact hne q)
end
end Dx

end
section -- Rm
namespace Mx
theorem bit_lt {n A k : Nat} (hA : A < 2 ^ n) (h : k ∈ bitsL A) : k < n := bits_lt hA (mem_bitsL.mp h)
theorem bitsL_inj {A B : Nat} (h : ∀ k, k ∈ bitsL A ↔ k ∈ bitsL B) : A = B := by
  rw [← maskN_bitsL A, ← maskN_bitsL B, asc_ext (asc_bitsL A) (asc_bitsL B) h]
theorem mem_sumsM {n A B : Nat} (hn : 1 ≤ n) (hA : A < 2 ^ n) (hB : B < 2 ^ n) (k : Nat) : k ∈ bitsL (sumsN n A B) ↔ ∃ x ∈ bitsL A, ∃ y ∈ bitsL B, (x + y) % n = k := by
  have h := mem_sums (n := n) (a := bitsL A) (b := bitsL B) (fun k hk => bit_lt hA hk) (fun k hk => bit_lt hB hk) k
  rw [maskN_bitsL, maskN_bitsL] at h
  rw [h]
  constructor
  · rintro ⟨x, hx, y, hy, e, _⟩
    exact ⟨x, hx, y, hy, e⟩
  · rintro ⟨x, hx, y, hy, e⟩
    exact ⟨x, hx, y, hy, e, by rw [← e]; exact Nat.mod_lt _ hn⟩
theorem sumsN_lt (n A B : Nat) : sumsN n A B < 2 ^ n := wrapN_lt _ _
theorem sums_comm {n A B : Nat} (hn : 1 ≤ n) (hA : A < 2 ^ n) (hB : B < 2 ^ n) : sumsN n A B = sumsN n B A := bitsL_inj fun k => by
  rw [mem_sumsM hn hA hB, mem_sumsM hn hB hA]
  constructor
  · rintro ⟨x, hx, y, hy, e⟩
    exact ⟨y, hy, x, hx, by rw [Nat.add_comm]; exact e⟩
  · rintro ⟨x, hx, y, hy, e⟩
    exact ⟨y, hy, x, hx, by rw [Nat.add_comm]; exact e⟩
theorem sums_assoc {n A B C : Nat} (hn : 1 ≤ n) (hA : A < 2 ^ n) (hB : B < 2 ^ n) (hC : C < 2 ^ n) : sumsN n (sumsN n A B) C = sumsN n A (sumsN n B C) := bitsL_inj fun k => by
  rw [mem_sumsM hn (sumsN_lt _ _ _) hC, mem_sumsM hn hA (sumsN_lt _ _ _)]
  constructor
  · rintro ⟨x, hx, z, hz, e⟩
    obtain ⟨a, ha, b, hb, e1⟩ := (mem_sumsM hn hA hB x).mp hx
    refine ⟨a, ha, (b + z) % n, (mem_sumsM hn hB hC _).mpr ⟨b, hb, z, hz, rfl⟩, ?_⟩
    rw [← e, ← e1, Nat.add_mod_mod, Nat.mod_add_mod, Nat.add_assoc]
  · rintro ⟨a, ha, x, hx, e⟩
    obtain ⟨b, hb, z, hz, e1⟩ := (mem_sumsM hn hB hC x).mp hx
    refine ⟨(a + b) % n, (mem_sumsM hn hA hB _).mpr ⟨a, ha, b, hb, rfl⟩, z, hz, ?_⟩
    rw [← e, ← e1, Nat.add_mod_mod, Nat.mod_add_mod, Nat.add_assoc]
theorem inv_inv {n A : Nat} : (A ^^^ (1 <<< n - 1)) ^^^ (1 <<< n - 1) = A := by
  rw [Nat.xor_assoc, Nat.xor_self, Nat.xor_zero]
/-- multiplied -/
def scaleM (n m : Nat) (f : Int) : Nat := maskN ((bitsL m).map fun h : Nat => ((h : Int) * f % n).toNat)
theorem mem_scale {n m : Nat} {f : Int} (k : Nat) : k ∈ bitsL (scaleM n m f) ↔ ∃ x ∈ bitsL m, ((x : Int) * f % n).toNat = k := by
  unfold scaleM
  rw [mem_mask, List.mem_map]
theorem emod_toNat {n : Nat} (hn : 1 ≤ n) (i : Int) : (((i % n).toNat : Nat) : Int) = i % n := Int.toNat_of_nonneg (Int.emod_nonneg _ (by omega))
theorem emod_toNat_lt {n : Nat} (hn : 1 ≤ n) (i : Int) : (i % n).toNat < n := by
  have h0 : 0 ≤ i % (n : Int) := Int.emod_nonneg _ (by omega)
  have h1 : i % (n : Int) < n := Int.emod_lt_of_pos _ (by omega)
  omega
theorem scale_one {n A : Nat} (hn : 1 ≤ n) (hA : A < 2 ^ n) : scaleM n A 1 = A := bitsL_inj fun k => by
  rw [mem_scale]
  have key : ∀ x ∈ bitsL A, ((x : Int) * 1 % n).toNat = x := fun x hx => by
    have := bit_lt hA hx
    rw [Int.mul_one, Int.emod_eq_of_lt (by omega) (by omega), Int.toNat_natCast]
  constructor
  · rintro ⟨x, hx, e⟩
    rw [key x hx] at e
    exact e ▸ hx
  · intro h
    exact ⟨k, h, key k h⟩
theorem neg_neg' {n A : Nat} (hn : 1 ≤ n) (hA : A < 2 ^ n) : scaleM n (scaleM n A (-1)) (-1) = A := bitsL_inj fun k => by
  rw [mem_scale]
  have key : ∀ x ∈ bitsL A, (((((x : Int) * -1 % n).toNat : Nat) : Int) * -1 % n).toNat = x := fun x hx => by
    have h := bit_lt hA hx
    rw [emod_toNat hn]
    have e : (x : Int) * -1 % n * -1 % n = x := by
      rw [Int.mul_emod ((x : Int) * -1 % n), Int.emod_emod_of_dvd _ (Int.dvd_refl _), ← Int.mul_emod, show (x : Int) * -1 * -1 = x by omega, Int.emod_eq_of_lt (by omega) (by omega)]
    rw [e, Int.toNat_natCast]
  constructor
  · rintro ⟨y, hy, e⟩
    obtain ⟨x, hx, e1⟩ := mem_scale y |>.mp hy
    subst e1
    rw [key x hx] at e
    exact e ▸ hx
  · intro h
    exact ⟨_, (mem_scale _).mpr ⟨k, h, rfl⟩, key k h⟩
/-- moved -/
def movedM (n m : Nat) (b : Int) : Nat := turnN n m (b % n).toNat
theorem movedM_lt (n m : Nat) (b : Int) : movedM n m b < 2 ^ n := wrapN_lt _ _
theorem mem_moved {n A : Nat} (hn : 1 ≤ n) (hA : A < 2 ^ n) (f : Int) (k : Nat) : k ∈ bitsL (movedM n A f) ↔ ∃ x ∈ bitsL A, (((x : Int) + f) % n).toNat = k := by
  have h := mem_turn (n := n) (a := bitsL A) (b := (f % n).toNat) (fun k hk => bit_lt hA hk) (emod_toNat_lt hn f) k
  rw [maskN_bitsL] at h
  unfold movedM
  rw [h]
  have key : ∀ x : Nat, (((x : Int) + f) % n).toNat = (x + (f % n).toNat) % n := fun x => by
    have e : ((((x + (f % n).toNat) % n : Nat)) : Int) = ((x : Int) + f) % n := by
      rw [Int.natCast_emod, Int.natCast_add, emod_toNat hn, Int.add_emod_emod]
    rw [← e, Int.toNat_natCast]
  constructor
  · rintro ⟨x, hx, e, _⟩
    exact ⟨x, hx, by rw [key]; exact e⟩
  · rintro ⟨x, hx, e⟩
    rw [key] at e
    exact ⟨x, hx, e, by rw [← e]; exact Nat.mod_lt _ hn⟩
theorem moved_sum {n A : Nat} (hn : 1 ≤ n) (hA : A < 2 ^ n) (f : Int) : movedM n A f = sumsN n A (maskN [(f % n).toNat]) := bitsL_inj fun k => by
  have hB : maskN [(f % n).toNat] < 2 ^ n := maskN_lt fun k hk => by rw [List.mem_singleton.mp hk]; exact emod_toNat_lt hn f
  rw [mem_moved hn hA, mem_sumsM hn hA hB]
  have key : ∀ x : Nat, (((x : Int) + f) % n).toNat = (x + (f % n).toNat) % n := fun x => by
    have e : ((((x + (f % n).toNat) % n : Nat)) : Int) = ((x : Int) + f) % n := by
      rw [Int.natCast_emod, Int.natCast_add, emod_toNat hn, Int.add_emod_emod]
    rw [← e, Int.toNat_natCast]
  constructor
  · rintro ⟨x, hx, e⟩
    exact ⟨x, hx, _, (mem_mask _).mpr (List.mem_singleton.mpr rfl), by rw [← key]; exact e⟩
  · rintro ⟨x, hx, y, hy, e⟩
    rw [List.mem_singleton.mp ((mem_mask _).mp hy)] at e
    exact ⟨x, hx, by rw [key]; exact e⟩
/-! ### ascending lists of integers -/
theorem int_row {ms : List Int} {row : List Nat} (h1 : ms.Pairwise (· < ·)) (h2 : row.Pairwise (· < ·)) (h : ∀ k : Int, k ∈ ms ↔ ∃ z ∈ row, (z : Int) = k) : ms = row.map fun z : Nat => (z : Int) := by
  have h0 : ∀ k ∈ ms, 0 ≤ k := fun k hk => by
    obtain ⟨z, _, e⟩ := (h k).mp hk
    omega
  have e1 : ms.map Int.toNat = row := by
    refine asc_ext ?_ h2 fun k => ?_
    · rw [List.pairwise_map]
      refine h1.imp_of_mem fun {a b} ha hb hab => ?_
      have := h0 a ha
      have := h0 b hb
      omega
    · rw [List.mem_map]
      constructor
      · rintro ⟨x, hx, rfl⟩
        obtain ⟨z, hz, e⟩ := (h x).mp hx
        rw [← e, Int.toNat_natCast]
        exact hz
      · intro hk
        exact ⟨k, (h k).mpr ⟨k, hk, rfl⟩, Int.toNat_natCast k⟩
  rw [← e1, List.map_map]
  refine (List.map_id' ms).symm.trans (List.map_congr_left fun k hk => ?_)
  show k = ((k.toNat : Nat) : Int)
  rw [Int.toNat_of_nonneg (h0 k hk)]
theorem asc_of_sorted {ms L : List Int} (hp : ms.Perm L) (hs : ms.Pairwise (· ≤ ·)) (hn : L.Nodup) : ms.Pairwise (· < ·) := by
  have h1 : ms.Nodup := hp.nodup_iff.mpr hn
  refine (hs.and h1).imp fun {a b} ⟨h, h'⟩ => ?_
  omega
theorem nodup_lt {n : Nat} {ks : List Int} (h : ks.Nodup) (hb : ∀ k ∈ ks, 0 ≤ k ∧ k < n) : ks.length ≤ n := by
  have := h.length_le_of_subset (l₂ := (List.range n).map fun z : Nat => (z : Int)) fun k hk => by
    obtain ⟨h0, h1⟩ := hb k hk
    exact List.mem_map.mpr ⟨k.toNat, List.mem_range.mpr (by omega), Int.toNat_of_nonneg h0⟩
  rwa [List.length_map, List.length_range] at this
end Mx

end
section -- Ln
namespace Pk
open PySem L2 Sx Mx
theorem row_eq {n : Nat} {ra : List Nat} (hv : Valid n ra) : bitsL (maskN ra) = ra := bitsL_maskN hv.asc
theorem mem_scaleR {n : Nat} {ra : List Nat} {f : Int} (hv : Valid n ra) (k : Nat) : k ∈ bitsL (scaleN n (maskN ra) f) ↔ ∃ x ∈ ra, ((x : Int) * f % n).toNat = k := by
  have h := mem_scale (n := n) (m := maskN ra) (f := f) k
  rw [row_eq hv] at h
  rw [← h]
  show k ∈ bitsL (maskN ((bitsL (maskN ra)).map _)) ↔ k ∈ bitsL (maskN ((bitsL (maskN ra)).map _))
  exact Iff.rfl
theorem mem_movedR {n : Nat} {ra : List Nat} {f : Int} (hv : Valid n ra) (k : Nat) : k ∈ bitsL (movedN n (maskN ra) f) ↔ ∃ x ∈ ra, (((x : Int) + f) % n).toNat = k := by
  have h := mem_moved (n := n) (A := maskN ra) hv.pos hv.mask f k
  rw [row_eq hv] at h
  exact h
theorem emod_ne {n : Nat} {i j : Int} (h : 0 < i - j) (h2 : i - j < n) : i % n ≠ j % n := by
  intro e
  have h3 := Int.emod_emod_of_dvd i (Int.dvd_refl (n : Int))
  have h4 := (Int.emod_eq_emod_iff_emod_sub_eq_zero).mp e
  rw [Int.emod_eq_of_lt (by omega) h2] at h4
  omega
theorem nodup_shift {n : Nat} {ra : List Nat} (hv : Valid n ra) (f : Int) : (ra.map fun z : Nat => ((z : Int) + f) % n).Nodup := by
  show List.Pairwise _ _
  rw [List.pairwise_map]
  refine hv.asc.imp_of_mem fun {x y} hx hy hxy => ?_
  have := hv.lt y hy
  exact (emod_ne (by omega) (by omega)).symm
theorem nodup_neg {n : Nat} {ra : List Nat} (hv : Valid n ra) : (ra.map fun z : Nat => ((n : Int) - z) % n).Nodup := by
  show List.Pairwise _ _
  rw [List.pairwise_map]
  refine hv.asc.imp_of_mem fun {x y} hx hy hxy => ?_
  have := hv.lt y hy
  exact emod_ne (by omega) (by omega)
theorem map_row {n : Nat} {ra : List Nat} {row : List Nat} {G : Nat → Int} {ms : List Int} (hn : 1 ≤ n) (asc : row.Pairwise (· < ·)) (h1 : ms.Pairwise (· < ·)) (h2 : ∀ k : Int, k ∈ ms ↔ k ∈ ra.map fun z => G z % n) (h : ∀ k : Nat, k ∈ row ↔ ∃ x ∈ ra, (G x % n).toNat = k) : ms.map V.int = rowV row := by
  rw [int_row h1 asc fun k => ?_, ← rowV_int']
  rw [h2, List.mem_map]
  constructor
  · rintro ⟨z, hz, rfl⟩
    exact ⟨_, (h _).mpr ⟨z, hz, rfl⟩, emod_toNat hn _⟩
  · rintro ⟨z, hz, rfl⟩
    obtain ⟨x, hx, rfl⟩ := (h z).mp hz
    exact ⟨x, hx, (emod_toNat hn _).symm⟩
where rowV_int' {row : List Nat} : rowV row = (row.map fun z : Nat => (z : Int)).map V.int := by rw [List.map_map]; rfl
theorem neg_row {n : Nat} {ra : List Nat} (hv : Valid n ra) {ms : List Int} (hp : ms.Perm (ra.map fun z : Nat => ((n : Int) - z) % n)) (hs : ms.Pairwise (· ≤ ·)) : ms.map V.int = rowV (bitsL (scaleN n (maskN ra) (-1))) :=
  map_row hv.pos (asc_bitsL _) (asc_of_sorted hp hs (nodup_neg hv)) (fun k => hp.mem_iff) fun k => by
    rw [mem_scaleR hv]
    have e : ∀ x : Nat, (x : Int) * -1 % n = ((n : Int) - x) % n := fun x => by
      rw [show (n : Int) - x = (x : Int) * -1 + n by omega, Int.add_emod_right]
    simp only [e]
theorem moved_row {n : Nat} {ra : List Nat} (hv : Valid n ra) {f : Int} {ms : List Int} (hp : ms.Perm (ra.map fun z : Nat => ((z : Int) + f) % n)) (hs : ms.Pairwise (· ≤ ·)) : ms.map V.int = rowV (bitsL (movedN n (maskN ra) f)) :=
  map_row hv.pos (asc_bitsL _) (asc_of_sorted hp hs (nodup_shift hv f)) (fun k => hp.mem_iff) fun k => mem_movedR hv k
theorem mul_row {n : Nat} {ra : List Nat} (hv : Valid n ra) {f : Int} {ms : List Int} (h1 : ms.Pairwise (· < ·)) (h2 : ∀ k : Int, k ∈ ms ↔ k ∈ ra.map fun z : Nat => ((z : Int) * f) % n) : ms.map V.int = rowV (bitsL (scaleN n (maskN ra) f)) :=
  map_row hv.pos (asc_bitsL _) h1 h2 fun k => mem_scaleR hv k
theorem or_row {n : Nat} {ra rb : List Nat} (hv : Valid n ra) (hv' : Valid n rb) {ms : List Int} (h1 : ms.Pairwise (· < ·)) (h2 : ∀ k : Int, k ∈ ms ↔ k ∈ (ra ++ rb).map fun z : Nat => (z : Int)) : ms.map V.int = rowV (bitsL (maskN ra ||| maskN rb)) := by
  rw [int_row h1 (asc_bitsL (maskN ra ||| maskN rb)) fun k => ?_, ← map_row.rowV_int']
  rw [h2, List.mem_map]
  simp only [mem_or, List.mem_append]
theorem and_row {n : Nat} {ra rb : List Nat} (hv : Valid n ra) (hv' : Valid n rb) : ra.filter (fun k : Nat => decide ((k : Int) ∈ rb.map fun z : Nat => (z : Int))) = bitsL (maskN ra &&& maskN rb) := asc_ext (hv.asc.filter _) (asc_bitsL _) fun k => by
  rw [mem_and, List.mem_filter, decide_eq_true_eq, List.mem_map]
  constructor
  · rintro ⟨h1, z, hz, e⟩
    exact ⟨h1, by rw [← show z = k by omega]; exact hz⟩
  · rintro ⟨h1, h2⟩
    exact ⟨h1, k, h2, rfl⟩
theorem not_row {n : Nat} {ra : List Nat} (hv : Valid n ra) : (List.range n).filter (fun k : Nat => !decide ((k : Int) ∈ ra.map fun z : Nat => (z : Int))) = bitsL (maskN ra ^^^ (1 <<< n - 1)) := asc_ext (asc_filter _ _) (asc_bitsL _) fun k => by
  rw [mem_xor hv.lt, mem_filter_range, Bool.not_eq_true', decide_eq_false_iff_not, List.mem_map]
  constructor
  · rintro ⟨h1, h2⟩
    exact ⟨h1, fun h => h2 ⟨k, h, rfl⟩⟩
  · rintro ⟨h1, h2⟩
    exact ⟨h1, fun ⟨z, hz, e⟩ => h2 (by rw [← show z = k by omega]; exact hz)⟩
/-! ### the law's identities, row by row -/
theorem id_assoc {n : Nat} {ra rb rc : List Nat} (a : Valid n ra) (b : Valid n rb) (c : Valid n rc) : bitsL (sumsN n (maskN (bitsL (sumsN n (maskN ra) (maskN rb)))) (maskN rc)) = bitsL (sumsN n (maskN ra) (maskN (bitsL (sumsN n (maskN rb) (maskN rc))))) := by
  rw [maskN_bitsL, maskN_bitsL, sums_assoc a.pos a.mask b.mask c.mask]
theorem id_comm {n : Nat} {ra rb : List Nat} (a : Valid n ra) (b : Valid n rb) : bitsL (sumsN n (maskN ra) (maskN rb)) = bitsL (sumsN n (maskN rb) (maskN ra)) := by
  rw [sums_comm a.pos a.mask b.mask]
theorem id_inv {n : Nat} {ra : List Nat} (a : Valid n ra) : bitsL (maskN (bitsL (maskN ra ^^^ (1 <<< n - 1))) ^^^ (1 <<< n - 1)) = ra := by
  rw [maskN_bitsL, inv_inv, row_eq a]
theorem id_neg {n : Nat} {ra : List Nat} (a : Valid n ra) : bitsL (scaleN n (maskN (bitsL (scaleN n (maskN ra) (-1)))) (-1)) = ra := by
  rw [maskN_bitsL]
  have h := neg_neg' a.pos a.mask
  exact (congrArg bitsL h).trans (row_eq a)
theorem id_sub {n : Nat} {ra rb : List Nat} : bitsL (subN n (maskN ra) (maskN rb)) = bitsL (sumsN n (maskN ra) (maskN (bitsL (scaleN n (maskN rb) (-1))))) := by
  rw [maskN_bitsL]
  rfl
theorem id_moved {n : Nat} {ra : List Nat} (a : Valid n ra) (f : Int) : bitsL (movedN n (maskN ra) f) = bitsL (sumsN n (maskN ra) (maskN [(f % n).toNat])) := congrArg bitsL (moved_sum a.pos a.mask f)
theorem id_one {n : Nat} {ra : List Nat} (a : Valid n ra) : bitsL (scaleN n (maskN ra) 1) = ra := (congrArg bitsL (scale_one a.pos a.mask)).trans (row_eq a)
theorem valid_one {n : Nat} (h1 : 1 ≤ n) (h2 : n ≤ 240) (f : Int) : Valid n [(f % n).toNat] := ⟨h1, h2, List.pairwise_singleton _ _, fun k hk => by rw [List.mem_singleton.mp hk]; exact emod_toNat_lt h1 f⟩
end Pk

end
section -- Lb
set_option maxRecDepth 100000
set_option maxHeartbeats 8000000
local macro_rules | `(tactic| wtm_at "dx.vis") => `(tactic| first | exact Or.inl rfl | exact Or.inr (Or.inl rfl) | exact Or.inr (Or.inr rfl))
local macro_rules | `(tactic| wtm_at "dx.loc") => `(tactic| first | exact Or.inl rfl | exact Or.inr rfl)
local macro_rules | `(tactic| wtm_at "dx.nd") => `(tactic| first | assumption | decide +kernel)
local macro_rules | `(tactic| wtm_at "room") => `(tactic| first | assumption | exact L2.Room.mono (by assumption) (by decide))
local macro_rules | `(tactic| wtm_at "size") => `(tactic| first
  | exact Nat.le_of_ble_eq_true rfl
  | exact Sx.size5 (by first | omega | (simp only [List.length_cons, List.length_nil, List.length_append, List.length_map, List.length_replicate]; omega))
  | exact Sx.size5l (by first | omega | (simp only [List.length_cons, List.length_nil, List.length_append, List.length_map, List.length_replicate]; omega)))
-- the slots written out
local macro_rules | `(tactic| wtm_at "dx.rho") => `(tactic| (simp (decide := true) only [L2.cxOf, L2.Cx.nox, Dx.startE, Dx.setE, Dx.putOut, Dx.D.put, Dx.D.fz, Dx.wipeE, List.map, List.map_cons, List.map_nil, List.length_cons, List.length_nil, List.replicate_succ, List.replicate_zero, List.cons_append, List.nil_append, List.append_nil, List.set_cons_succ, List.set_cons_zero, List.getElem?_cons_succ, List.getElem?_cons_zero, Nat.reduceAdd, Nat.reduceSub, Int.reduceToNat, if_true, if_false, ite_true, ite_false, reduceIte] <;> exact rfl))
local macro_rules | `(tactic| wtm_at "dx.n") => `(tactic| first
  | ((with_reducible show Dx.DSs _ _ _ _ (_)); first | ((with_reducible show Dx.DSs _ _ _ _ (Dx.setE _ _ _ _)); refine Dx.dss_env (ρ' := ?_) (by wtm_at "dx.rho") ?_) | ((with_reducible show Dx.DSs _ _ _ _ (Dx.putOut _ _ _)); refine Dx.dss_env (ρ' := ?_) (by wtm_at "dx.rho") ?_) | ((with_reducible show Dx.DSs _ _ _ _ (Dx.startE _ _)); refine Dx.dss_env (ρ' := ?_) (by wtm_at "dx.rho") ?_) | ((with_reducible show Dx.DSs _ _ _ _ (List.set _ _ _)); refine Dx.dss_env (ρ' := ?_) (by wtm_at "dx.rho") ?_) | ((with_reducible show Dx.DSs _ _ _ _ (Dx.wipeE _ _)); refine Dx.dss_env (ρ' := ?_) (by wtm_at "dx.rho") ?_))
  | ((with_reducible show Dx.DE _ _ _ (_) _); first | ((with_reducible show Dx.DE _ _ _ (Dx.setE _ _ _ _) _); refine Dx.de_env (ρ' := ?_) (by wtm_at "dx.rho") ?_) | ((with_reducible show Dx.DE _ _ _ (Dx.putOut _ _ _) _); refine Dx.de_env (ρ' := ?_) (by wtm_at "dx.rho") ?_) | ((with_reducible show Dx.DE _ _ _ (Dx.startE _ _) _); refine Dx.de_env (ρ' := ?_) (by wtm_at "dx.rho") ?_) | ((with_reducible show Dx.DE _ _ _ (List.set _ _ _) _); refine Dx.de_env (ρ' := ?_) (by wtm_at "dx.rho") ?_) | ((with_reducible show Dx.DE _ _ _ (Dx.wipeE _ _) _); refine Dx.de_env (ρ' := ?_) (by wtm_at "dx.rho") ?_))
  | ((with_reducible show Dx.DT _ _ _ (_) _); first | ((with_reducible show Dx.DT _ _ _ (Dx.setE _ _ _ _) _); refine Dx.dt_env (ρ' := ?_) (by wtm_at "dx.rho") ?_) | ((with_reducible show Dx.DT _ _ _ (Dx.putOut _ _ _) _); refine Dx.dt_env (ρ' := ?_) (by wtm_at "dx.rho") ?_) | ((with_reducible show Dx.DT _ _ _ (Dx.startE _ _) _); refine Dx.dt_env (ρ' := ?_) (by wtm_at "dx.rho") ?_) | ((with_reducible show Dx.DT _ _ _ (List.set _ _ _) _); refine Dx.dt_env (ρ' := ?_) (by wtm_at "dx.rho") ?_) | ((with_reducible show Dx.DT _ _ _ (Dx.wipeE _ _) _); refine Dx.dt_env (ρ' := ?_) (by wtm_at "dx.rho") ?_))
  | ((with_reducible show Dx.DG _ _ _ _ (_) _); first | ((with_reducible show Dx.DG _ _ _ _ (Dx.setE _ _ _ _) _); refine Dx.dg_env (ρ' := ?_) (by wtm_at "dx.rho") ?_) | ((with_reducible show Dx.DG _ _ _ _ (Dx.putOut _ _ _) _); refine Dx.dg_env (ρ' := ?_) (by wtm_at "dx.rho") ?_) | ((with_reducible show Dx.DG _ _ _ _ (Dx.startE _ _) _); refine Dx.dg_env (ρ' := ?_) (by wtm_at "dx.rho") ?_) | ((with_reducible show Dx.DG _ _ _ _ (List.set _ _ _) _); refine Dx.dg_env (ρ' := ?_) (by wtm_at "dx.rho") ?_) | ((with_reducible show Dx.DG _ _ _ _ (Dx.wipeE _ _) _); refine Dx.dg_env (ρ' := ?_) (by wtm_at "dx.rho") ?_))
  | ((with_reducible show Dx.DGs _ _ _ _ (_) _); first | ((with_reducible show Dx.DGs _ _ _ _ (Dx.setE _ _ _ _) _); refine Dx.dgs_env (ρ' := ?_) (by wtm_at "dx.rho") ?_) | ((with_reducible show Dx.DGs _ _ _ _ (Dx.putOut _ _ _) _); refine Dx.dgs_env (ρ' := ?_) (by wtm_at "dx.rho") ?_) | ((with_reducible show Dx.DGs _ _ _ _ (Dx.startE _ _) _); refine Dx.dgs_env (ρ' := ?_) (by wtm_at "dx.rho") ?_) | ((with_reducible show Dx.DGs _ _ _ _ (List.set _ _ _) _); refine Dx.dgs_env (ρ' := ?_) (by wtm_at "dx.rho") ?_) | ((with_reducible show Dx.DGs _ _ _ _ (Dx.wipeE _ _) _); refine Dx.dgs_env (ρ' := ?_) (by wtm_at "dx.rho") ?_)))
-- expressions
local macro_rules | `(tactic| wtm_at "dx.e") => `(tactic| first
  | wtm_at "dx.n"
  | with_reducible refine Dx.d_int ?_
  | with_reducible refine Dx.d_bl ?_
  | with_reducible refine Dx.d_non ?_
  | with_reducible refine Dx.d_str ?_
  | ((with_reducible show Dx.DE _ _ (PySem.Expr.Name _ _) _ _); refine Dx.d_name rfl rfl (by wtm_at "dx.vis") (by decide) (by decide) ?_)
  | ((with_reducible show Dx.DE _ _ (PySem.Expr.Name _ _) _ _); refine Dx.d_nameO (by wtm_at "dx.nd") rfl (by wtm_at "dx.vis") (by decide) (by decide) ?_)
  | ((with_reducible show Dx.DE _ _ (PySem.Expr.Name "int" _) _ _); refine Dx.d_bltTy (T := "int") rfl (Sx.Blt.int (by assumption)) (by decide +kernel) (by decide) (by decide) ?_)
  | ((with_reducible show Dx.DE _ _ (PySem.Expr.Name "bool" _) _ _); refine Dx.d_bltTy (T := "bool") rfl (Sx.Blt.bool (by assumption)) (by decide +kernel) (by decide) (by decide) ?_)
  | ((with_reducible show Dx.DE _ _ (PySem.Expr.Name "tuple" _) _ _); refine Dx.d_bltTy (T := "tuple") rfl (Sx.Blt.tuple (by assumption)) (by decide +kernel) (by decide) (by decide) ?_)
  | ((with_reducible show Dx.DE _ _ (PySem.Expr.Name "str" _) _ _); refine Dx.d_bltTy (T := "str") rfl (Sx.Blt.str (by assumption)) (by decide +kernel) (by decide) (by decide) ?_)
  | ((with_reducible show Dx.DE _ _ (PySem.Expr.Name _ _) _ _); refine Dx.d_globI rfl (by assumption) (by decide) ?_)
  | with_reducible refine Dx.d_bin ?_
  | with_reducible refine Dx.d_not ?_
  | with_reducible refine Dx.d_un ?_
  | ((with_reducible refine Dx.d_cmp ?_ ?_); (next => first | rfl | exact L2.nomark _))
  | with_reducible refine Dx.d_one ?_
  | ((with_reducible show Dx.DE _ _ (PySem.Expr.Compare _ [_, _] [_, _] _) _ _); refine Dx.d_chain (by with_unfolding_all rfl) ?_)
  | with_reducible refine Dx.d_and ?_
  | with_reducible refine Dx.d_or ?_
  | with_reducible refine Dx.d_if ?_
  | with_reducible refine Dx.d_tup ?_
  | with_reducible refine Dx.d_lst ?_
  | with_reducible refine Dx.d_sl ?_
  | ((with_reducible show Dx.DE _ _ (PySem.Expr.Subscript (PySem.Expr.Name _ _) _ _) _ _); refine Dx.d_ixO (fun _ _ => rfl) rfl rfl (by wtm_at "dx.vis") (by decide) (by decide) (by wtm_at "dx.nd") ?_)
  | ((with_reducible refine Dx.d_ix ?_ ?_); (next => exact fun _ _ => rfl))
  | ((with_reducible show Dx.DE _ _ (PySem.Expr.Call (PySem.Expr.Name "len" _) [PySem.Expr.Name _ _] [] _) _ _); refine Dx.d_lenO (by assumption) rfl rfl rfl (by wtm_at "dx.vis") (by decide) (by decide) rfl ?_)
  | ((with_reducible show Dx.DE _ _ (PySem.Expr.Call (PySem.Expr.Attribute (PySem.Expr.Name _ _) "append" _) [_] [] _) _ _); refine Dx.d_append (by wtm_at "dx.nd") rfl rfl rfl rfl rfl rfl rfl (by wtm_at "dx.vis") (by decide) (by decide) ?_)
  | ((with_reducible show Dx.DE _ _ (PySem.Expr.Call (PySem.Expr.Attribute (PySem.Expr.Name _ _) "pop" _) [_] [] _) _ _); refine Dx.d_popAt (by wtm_at "dx.nd") rfl rfl rfl rfl rfl rfl rfl (by wtm_at "dx.vis") (by decide) (by decide) ?_)
  | wtm_at "dx.blt"
  | wtm_at "dx.f")
-- arguments: the purse is lent
local macro_rules | `(tactic| wtm_at "dx.a") => `(tactic| first
  | with_reducible refine Dx.da_nil ?_
  | ((with_reducible show Dx.DA _ _ (PySem.Expr.Name "purse" _ :: _) _ _); first | refine Dx.da_lend (i := 0) rfl ⟨_, rfl⟩ (by wtm_at "dx.vis") (by decide) (by decide) rfl ?_ | refine Dx.da_lend (i := 1) rfl ⟨_, rfl⟩ (by wtm_at "dx.vis") (by decide) (by decide) rfl ?_ | refine Dx.da_lend (i := 2) rfl ⟨_, rfl⟩ (by wtm_at "dx.vis") (by decide) (by decide) rfl ?_ | refine Dx.da_lend (i := 3) rfl ⟨_, rfl⟩ (by wtm_at "dx.vis") (by decide) (by decide) rfl ?_ | refine Dx.da_lend (i := 4) rfl ⟨_, rfl⟩ (by wtm_at "dx.vis") (by decide) (by decide) rfl ?_ | refine Dx.da_lend (i := 5) rfl ⟨_, rfl⟩ (by wtm_at "dx.vis") (by decide) (by decide) rfl ?_ | refine Dx.da_lend (i := 6) rfl ⟨_, rfl⟩ (by wtm_at "dx.vis") (by decide) (by decide) rfl ?_ | refine Dx.da_lend (i := 7) rfl ⟨_, rfl⟩ (by wtm_at "dx.vis") (by decide) (by decide) rfl ?_ | refine Dx.da_lend (i := 8) rfl ⟨_, rfl⟩ (by wtm_at "dx.vis") (by decide) (by decide) rfl ?_ | refine Dx.da_lend (i := 9) rfl ⟨_, rfl⟩ (by wtm_at "dx.vis") (by decide) (by decide) rfl ?_)
  | ((with_reducible refine Dx.da_cons ?_ ?_); (next => rfl)))
local macro_rules | `(tactic| wtm_at "dx.t") => `(tactic| first
  | wtm_at "dx.n"
  | ((with_reducible refine Dx.dt_cmp ?_ ?_); (next => first | rfl | exact L2.nomark _))
  | with_reducible refine Dx.dt_not ?_
  | with_reducible refine Dx.dw_and ?_
  | with_reducible refine Dx.dw_and1 ?_
  | with_reducible refine Dx.dw_or ?_
  | with_reducible refine Dx.dw_or1 ?_
  | (with_reducible refine Dx.dt_pw (e := .BoolOp _ _ _) ?_)
  | ((with_reducible refine Dx.dt_val ?_ ?_); (next => (intro _; rfl))))
local macro_rules | `(tactic| wtm_at "dx.s") => `(tactic| first
  | wtm_at "dx.n"
  | with_reducible refine Dx.ds_nil ?_
  | with_reducible refine Dx.ds_cons ?_
  | with_reducible refine Dx.ds_pass ?_
  | with_reducible refine Dx.ds_break ?_
  | with_reducible refine Dx.ds_continue ?_
  | with_reducible refine Dx.ds_ret ?_
  | with_reducible refine Dx.ds_retN ?_
  | with_reducible refine Dx.ds_if ?_
  | ((with_reducible refine Dx.ds_expr ?_ ?_); (next => rfl))
  | ((with_reducible show Dx.DS _ _ (PySem.Stmt.Assign [PySem.Expr.Name "due" _] (PySem.Expr.List _ _) _) _ _); refine Dx.ds_own (by wtm_at "dx.nd") rfl (by wtm_at "dx.loc") (.inl rfl) rfl ?_)
  | ((with_reducible show Dx.DS _ _ (PySem.Stmt.Assign [PySem.Expr.Name "told" _] (PySem.Expr.List _ _) _) _ _); refine Dx.ds_own (by wtm_at "dx.nd") rfl (by wtm_at "dx.loc") (.inl rfl) rfl ?_)
  | ((with_reducible show Dx.DS _ _ (PySem.Stmt.Assign [PySem.Expr.Name "made" _] (PySem.Expr.List _ _) _) _ _); refine Dx.ds_own (by wtm_at "dx.nd") rfl (by wtm_at "dx.loc") (.inl rfl) rfl ?_)
  | ((with_reducible show Dx.DS _ _ (PySem.Stmt.Assign [PySem.Expr.Name "shots" _] (PySem.Expr.List _ _) _) _ _); refine Dx.ds_own (by wtm_at "dx.nd") rfl (by wtm_at "dx.loc") (.inl rfl) rfl ?_)
  | ((with_reducible refine Dx.ds_set ?_ ?_ ?_ ?_ ?_ ?_); (next => wtm_at "dx.nd"); (next => rfl); (next => wtm_at "dx.loc"); (next => exact .inl rfl); (next => rfl))
  | ((with_reducible show Dx.DS _ _ (PySem.Stmt.Assign [PySem.Expr.Tuple [_, _] _ _] (PySem.Expr.Tuple [_, _] _ _) _) _ _); refine Dx.ds_par rfl (by wtm_at "dx.nd") rfl rfl (by decide) rfl rfl rfl rfl ?_)
  | ((with_reducible show Dx.DS _ _ (PySem.Stmt.Assign [PySem.Expr.Tuple [_, _, _] _ _] (PySem.Expr.Tuple [_, _, _] _ _) _) _ _); refine Dx.ds_par3 rfl (by wtm_at "dx.nd") rfl rfl rfl (by decide) (by decide) (by decide) rfl rfl rfl rfl rfl ?_)
  | ((with_reducible refine Dx.ds_asg ?_ ?_ ?_ ?_); (next => rfl); (next => rfl); (next => rfl))
  | ((with_reducible show Dx.DSs _ _ _ _ _); refine Dx.ds_cons ?_))
local macro_rules | `(tactic| wtm_at "dx.g") => `(tactic| first
  | wtm_at "dx.n"
  | ((with_reducible refine Dx.dg_name ?_ ?_ ?_ ?_ ?_); (next => wtm_at "dx.nd"); (next => rfl); (next => wtm_at "dx.loc"); (next => exact .inl rfl))
  | ((with_reducible show Dx.DG _ _ (PySem.Expr.Tuple _ _ _) _ _ _); refine Dx.dg_tup rfl rfl rfl rfl ?_)
  | with_reducible refine Dx.dgs_nil ?_
  | ((with_reducible refine Dx.dgs_cons ?_ ?_); (next => rfl))
  | ((with_reducible show Dx.DG _ _ (PySem.Expr.Subscript (PySem.Expr.Name _ _) _ _) _ _ _); refine Dx.dg_sub (by wtm_at "dx.nd") (fun _ => rfl) rfl (by wtm_at "dx.vis") (by decide) (by decide) ?_))
-- values
local macro_rules | `(tactic| wtm_at "dx.vb") => `(tactic| first
  | with_reducible refine Dx.do_add ?_
  | with_reducible refine Dx.do_sub ?_
  | with_reducible refine Dx.do_orN ?_
  | with_reducible refine Dx.do_andN ?_
  | with_reducible refine Dx.do_andOne ?_
  | with_reducible refine Dx.do_xorN ?_
  | with_reducible refine Dx.do_shrN ?_
  | ((with_reducible refine Dx.do_oneShl ?_ ?_); (next => omega))
  | ((with_reducible refine Dx.do_mod ?_ ?_); (next => first | decide | assumption | omega))
  | ((with_reducible refine Dx.do_pow ?_ ?_); (next => decide))
  | ((with_reducible refine Dx.do_mul ?_ ?_); (next => first | exact Sx.mulL (by omega) (by omega) | exact Sx.mulR (by omega) (by omega)))
  | ((with_reducible refine Dx.do_fdiv ?_ ?_ ?_); (next => first | decide | assumption | omega); (next => first | decide | exact Dx.small8999 (by omega)))
  | ((with_reducible refine Dx.do_catL ?_ ?_); (next => wtm_at "size"))
  | ((with_reducible refine Dx.do_catT ?_ ?_); (next => wtm_at "size")))
local macro_rules | `(tactic| wtm_at "dx.vc") => `(tactic| first
  | with_reducible refine Dx.dc_lt ?_
  | with_reducible refine Dx.dc_le ?_
  | with_reducible refine Dx.dc_gt ?_
  | with_reducible refine Dx.dc_ge ?_
  | with_reducible refine Dx.dc_eqI ?_
  | with_reducible refine Dx.dc_neI ?_
  | with_reducible refine Dx.dc_eqS ?_
  | with_reducible refine Dx.dc_neS ?_
  | with_reducible refine Dx.dc_eqB ?_
  | with_reducible refine Dx.dc_neB ?_
  | with_reducible refine Dx.dc_isN ?_
  | with_reducible refine Dx.dc_notN ?_)
local macro_rules | `(tactic| wtm_at "dx.vf") => `(tactic| first
  | with_reducible refine Dx.dc_int1 ?_
  | with_reducible refine Dx.dc_abs ?_
  | ((with_reducible refine Dx.dc_divmod ?_ ?_); (next => first | decide | (constructor <;> omega)))
  | ((with_reducible refine Dx.dc_max2 ?_ ?_); (next => rfl))
  | ((with_reducible refine Dx.dc_min2 ?_ ?_); (next => rfl))
  | with_reducible refine Dx.dc_lenT ?_
  | with_reducible refine Dx.dc_lenL ?_
  | with_reducible refine Dx.dc_lenR ?_
  | with_reducible refine Dx.dc_tupL ?_
  | with_reducible refine Dx.dc_tupT ?_
  | with_reducible refine Dx.dc_lstL ?_
  | with_reducible refine Dx.dc_lstT ?_)
local macro_rules | `(tactic| wtm_at "dx.vr") => `(tactic| first
  | with_reducible refine Dx.du_neg ?_
  | with_reducible refine Dx.dtr_nat ?_
  | with_reducible refine Dx.dtr_tup ?_
  | with_reducible refine Dx.dtr_lst ?_
  | with_reducible refine Dx.dtr_non ?_
  | with_reducible refine Dx.du_inv ?_
  | with_reducible refine Dx.dtr_bl ?_
  | with_reducible refine Dx.dtr_int ?_
  | with_reducible refine Dx.dsl_lst ?_
  | with_reducible refine Dx.dsl_scr ?_
  | with_reducible refine Dx.dsl_tup ?_
  | ((with_reducible refine Dx.dix_tup ?_ ?_); (next => rfl))
  | ((with_reducible refine Dx.dix_lst ?_ ?_); (next => rfl)))
-- left-overs
local macro_rules | `(tactic| wtm_at "dx.x") => `(tactic| first
  | (with_reducible refine L2.iteT ?_)
  | (with_reducible refine Sx.brNt ?_)
  | (with_reducible refine Sx.brNf ?_)
  | (with_reducible refine L2.iteF ?_)
  | ((with_reducible show Dx.DP _ _ none _ _); refine Dx.dp_none ?_)
  | ((with_reducible show Dx.DP _ _ (some _) _ _); refine Dx.dp_some ?_)
  | ((with_reducible show Dx.DB _ _ _ _ _ _); unfold Dx.DB)
  | (with_reducible refine Dx.exI ?_)
  | (with_reducible refine Dx.exB ?_)
  | ((with_reducible show ∃ ds, Dx.agV _ = some ds ∧ List.length ds ≤ _ ∧ _); refine Dx.exLen rfl (by wtm_at "size") ?_)
  | ((with_reducible show ∃ ds, Dx.agV _ = some ds ∧ _); refine Dx.exVals rfl ?_)
  | ((with_reducible show ∃ ds, Dx.D.own _ = Dx.D.own ds ∧ _); refine ⟨_, rfl, ?_⟩)
  | ((with_reducible show ∃ u v, Dx.agV _ = some [u, v] ∧ _); refine Dx.exPar rfl ?_)
  | ((with_reducible show ∃ u v w, Dx.agV _ = some [u, v, w] ∧ _); refine Dx.exPar3 rfl ?_)
  | ((with_reducible show ∃ _ d1 ds _, _ ∧ _ ∧ Dx.D.items d1 = some ds ∧ _); refine Dx.exIx rfl rfl rfl ?_)
  | ((with_reducible show ∃ _ _ d1 ds, _ ∧ _ ∧ Dx.D.mutIs d1 = some ds ∧ _); refine Dx.exSub rfl rfl rfl ?_)
  | ((with_reducible show ∃ d1 ds, _ ∧ Dx.D.mutIs d1 = some ds ∧ _); refine Dx.exApp rfl rfl (by wtm_at "size") ?_))
local macro_rules | `(tactic| wtm_at "dx.f") => `(tactic| ((with_reducible show Dx.DE _ _ (PySem.Expr.Call (PySem.Expr.Name _ _) (_ :: _) [] _) _ _); refine Dx.d_call (by assumption) (by wtm_at "room") rfl (by decide) rfl rfl ?_))
local macro_rules | `(tactic| wtm_at "dx.bnd") => `(tactic| first | ((with_reducible show Dx.Bnd _ [] _ _); exact .nil) | ((with_reducible show Dx.Bnd _ (Dx.Ag.d _ :: _) _ _); exact .d (by wtm_at "dx.bnd")) | ((with_reducible show Dx.Bnd _ (Dx.Ag.len _ :: _) _ _); first | exact .lend rfl rfl (by wtm_at "dx.bnd") | exact .plain rfl rfl (by wtm_at "dx.bnd")))
local macro_rules | `(tactic| wtm_at "dx.blt") => `(tactic| first
  | ((with_reducible show Dx.DE _ _ (PySem.Expr.Call (PySem.Expr.Name "len" _) _ [] _) _ _); refine Dx.d_callB (id := "len") rfl (Sx.Blt.len (by assumption)) (by decide +kernel) (by decide) (by decide) rfl rfl ?_)
  | ((with_reducible show Dx.DE _ _ (PySem.Expr.Call (PySem.Expr.Name "int" _) _ [] _) _ _); refine Dx.d_callTy (T := "int") rfl (Sx.Blt.int (by assumption)) (by decide +kernel) (by decide) (by decide) rfl rfl ?_)
  | ((with_reducible show Dx.DE _ _ (PySem.Expr.Call (PySem.Expr.Name "abs" _) _ [] _) _ _); refine Dx.d_callB (id := "abs") rfl (Sx.Blt.abs (by assumption)) (by decide +kernel) (by decide) (by decide) rfl rfl ?_)
  | ((with_reducible show Dx.DE _ _ (PySem.Expr.Call (PySem.Expr.Name "tuple" _) _ [] _) _ _); refine Dx.d_callTy (T := "tuple") rfl (Sx.Blt.tuple (by assumption)) (by decide +kernel) (by decide) (by decide) rfl rfl ?_)
  | ((with_reducible show Dx.DE _ _ (PySem.Expr.Call (PySem.Expr.Name "list" _) _ [] _) _ _); refine Dx.d_callTy (T := "list") rfl (Sx.Blt.list (by assumption)) (by decide +kernel) (by decide) (by decide) rfl rfl ?_)
  | ((with_reducible show Dx.DE _ _ (PySem.Expr.Call (PySem.Expr.Name "set" _) _ [] _) _ _); refine Dx.d_callTy (T := "set") rfl (Sx.Blt.set (by assumption)) (by decide +kernel) (by decide) (by decide) rfl rfl ?_)
  | ((with_reducible show Dx.DE _ _ (PySem.Expr.Call (PySem.Expr.Name "sorted" _) _ [] _) _ _); refine Dx.d_callB (id := "sorted") rfl (Sx.Blt.sorted (by assumption)) (by decide +kernel) (by decide) (by decide) rfl rfl ?_)
  | ((with_reducible show Dx.DE _ _ (PySem.Expr.Call (PySem.Expr.Name "all" _) _ [] _) _ _); refine Dx.d_callB (id := "all") rfl (Sx.Blt.all (by assumption)) (by decide +kernel) (by decide) (by decide) rfl rfl ?_)
  | ((with_reducible show Dx.DE _ _ (PySem.Expr.Call (PySem.Expr.Name "divmod" _) _ [] _) _ _); refine Dx.d_callB (id := "divmod") rfl (Sx.Blt.divmod (by assumption)) (by decide +kernel) (by decide) (by decide) rfl rfl ?_)
  | ((with_reducible show Dx.DE _ _ (PySem.Expr.Call (PySem.Expr.Name "isinstance" _) _ [] _) _ _); refine Dx.d_callB (id := "isinstance") rfl (Sx.Blt.isinstance (by assumption)) (by decide +kernel) (by decide) (by decide) rfl rfl ?_)
  | ((with_reducible show Dx.DE _ _ (PySem.Expr.Call (PySem.Expr.Name "str" _) _ [] _) _ _); refine Dx.d_callTy (T := "str") rfl (Sx.Blt.str (by assumption)) (by decide +kernel) (by decide) (by decide) rfl rfl ?_)
  | ((with_reducible show Dx.DE _ _ (PySem.Expr.Call (PySem.Expr.Name "repr" _) _ [] _) _ _); refine Dx.d_callB (id := "repr") rfl (Sx.Blt.repr (by assumption)) (by decide +kernel) (by decide) (by decide) rfl rfl ?_)
  | ((with_reducible show Dx.DE _ _ (PySem.Expr.Call (PySem.Expr.Name "bool" _) _ [] _) _ _); refine Dx.d_callTy (T := "bool") rfl (Sx.Blt.bool (by assumption)) (by decide +kernel) (by decide) (by decide) rfl rfl ?_)
  | ((with_reducible show Dx.DE _ _ (PySem.Expr.Call (PySem.Expr.Name "min" _) _ [] _) _ _); refine Dx.d_callB (id := "min") rfl (Sx.Blt.min (by assumption)) (by decide +kernel) (by decide) (by decide) rfl rfl ?_)
  | ((with_reducible show Dx.DE _ _ (PySem.Expr.Call (PySem.Expr.Name "max" _) _ [] _) _ _); refine Dx.d_callB (id := "max") rfl (Sx.Blt.max (by assumption)) (by decide +kernel) (by decide) (by decide) rfl rfl ?_)
  | ((with_reducible show Dx.DE _ _ (PySem.Expr.Call (PySem.Expr.Name "sum" _) _ [] _) _ _); refine Dx.d_callB (id := "sum") rfl (Sx.Blt.sum (by assumption)) (by decide +kernel) (by decide) (by decide) rfl rfl ?_))
local macro_rules | `(tactic| wtm_at "dx1") => `(tactic| first
  | ((with_reducible show Dx.DE _ _ _ _ _); wtm_at "dx.e")
  | ((with_reducible show Dx.DO _ _ (PySem.binaryOp _) _ _ _ _); wtm_at "dx.vb")
  | ((with_reducible show Dx.DO _ _ (PySem.compareOp _) _ _ _ _); wtm_at "dx.vc")
  | ((with_reducible show Dx.DC _ _ _ _ _ _); wtm_at "dx.vf")
  | ((with_reducible show Dx.DA _ _ _ _ _); wtm_at "dx.a")
  | ((with_reducible show Dx.DSs _ _ _ _ _); wtm_at "dx.s")
  | ((with_reducible show Dx.DS _ _ _ _ _); wtm_at "dx.s")
  | ((with_reducible show Dx.DT _ _ _ _ _); wtm_at "dx.t")
  | ((with_reducible show Dx.DW _ _ _ _ _); wtm_at "dx.t")
  | ((with_reducible show Dx.DG _ _ _ _ _ _); wtm_at "dx.g")
  | ((with_reducible show Dx.DGs _ _ _ _ _ _); wtm_at "dx.g")
  | ((with_reducible show Dx.DIx _ _ _ _ _ _); wtm_at "dx.vr")
  | ((with_reducible show Dx.DTru _ _ _ _ _); wtm_at "dx.vr")
  | ((with_reducible show Dx.DU _ _ _ _ _ _); wtm_at "dx.vr")
  | ((with_reducible show Dx.DSl _ _ _ _ _ _ _); wtm_at "dx.vr")
  | wtm_at "dx.x")
local macro_rules | `(tactic| wtm_at "dx") => `(tactic| (repeat wtm_at "dx1"))
local macro_rules | `(tactic| wtm_at "for") => `(tactic| refine Dx.ds_for (fun _ => rfl) PySem.PassesOwn.never rfl ?_)
local macro_rules | `(tactic| wtm_at "di.R1") => `(tactic| refine Dx.di_R1 (by assumption) rfl rfl ?_)
local macro_rules | `(tactic| wtm_at "di.R2") => `(tactic| refine Dx.di_R2 (by assumption) rfl rfl rfl ?_)
local macro_rules | `(tactic| wtm_at "di.L") => `(tactic| refine Dx.di_L ?_)
local macro_rules | `(tactic| wtm_at "di.T") => `(tactic| refine Dx.di_T ?_)
local macro_rules | `(tactic| wtm_at "di.ET") => `(tactic| refine Dx.di_ET (by assumption) rfl rfl ?_)
local macro_rules | `(tactic| wtm_at "lc") => `(tactic| first | refine Dx.d_lc1 (n := 0) rfl rfl (by wtm_at "dx.nd") (by rfl) (by decide) (fun _ => rfl) ?_ | refine Dx.d_lc1 (n := 1) rfl rfl (by wtm_at "dx.nd") (by rfl) (by decide) (fun _ => rfl) ?_ | refine Dx.d_lc1 (n := 2) rfl rfl (by wtm_at "dx.nd") (by rfl) (by decide) (fun _ => rfl) ?_ | refine Dx.d_lc1 (n := 3) rfl rfl (by wtm_at "dx.nd") (by rfl) (by decide) (fun _ => rfl) ?_ | refine Dx.d_lc1 (n := 4) rfl rfl (by wtm_at "dx.nd") (by rfl) (by decide) (fun _ => rfl) ?_ | refine Dx.d_lc1 (n := 5) rfl rfl (by wtm_at "dx.nd") (by rfl) (by decide) (fun _ => rfl) ?_ | refine Dx.d_lc1 (n := 6) rfl rfl (by wtm_at "dx.nd") (by rfl) (by decide) (fun _ => rfl) ?_ | refine Dx.d_lc1 (n := 7) rfl rfl (by wtm_at "dx.nd") (by rfl) (by decide) (fun _ => rfl) ?_ | refine Dx.d_lc1 (n := 8) rfl rfl (by wtm_at "dx.nd") (by rfl) (by decide) (fun _ => rfl) ?_ | refine Dx.d_lc1 (n := 9) rfl rfl (by wtm_at "dx.nd") (by rfl) (by decide) (fun _ => rfl) ?_ | refine Dx.d_lc1 (n := 10) rfl rfl (by wtm_at "dx.nd") (by rfl) (by decide) (fun _ => rfl) ?_ | refine Dx.d_lc1 (n := 11) rfl rfl (by wtm_at "dx.nd") (by rfl) (by decide) (fun _ => rfl) ?_ | refine Dx.d_lc1 (n := 12) rfl rfl (by wtm_at "dx.nd") (by rfl) (by decide) (fun _ => rfl) ?_ | refine Dx.d_lc1 (n := 13) rfl rfl (by wtm_at "dx.nd") (by rfl) (by decide) (fun _ => rfl) ?_ | refine Dx.d_lc1 (n := 14) rfl rfl (by wtm_at "dx.nd") (by rfl) (by decide) (fun _ => rfl) ?_ | refine Dx.d_lc1 (n := 15) rfl rfl (by wtm_at "dx.nd") (by rfl) (by decide) (fun _ => rfl) ?_ | refine Dx.d_lc1 (n := 16) rfl rfl (by wtm_at "dx.nd") (by rfl) (by decide) (fun _ => rfl) ?_ | refine Dx.d_lc1 (n := 17) rfl rfl (by wtm_at "dx.nd") (by rfl) (by decide) (fun _ => rfl) ?_ | refine Dx.d_lc1 (n := 18) rfl rfl (by wtm_at "dx.nd") (by rfl) (by decide) (fun _ => rfl) ?_ | refine Dx.d_lc1 (n := 19) rfl rfl (by wtm_at "dx.nd") (by rfl) (by decide) (fun _ => rfl) ?_ | refine Dx.d_lc1 (n := 20) rfl rfl (by wtm_at "dx.nd") (by rfl) (by decide) (fun _ => rfl) ?_ | refine Dx.d_lc1 (n := 21) rfl rfl (by wtm_at "dx.nd") (by rfl) (by decide) (fun _ => rfl) ?_ | refine Dx.d_lc1 (n := 22) rfl rfl (by wtm_at "dx.nd") (by rfl) (by decide) (fun _ => rfl) ?_ | refine Dx.d_lc1 (n := 23) rfl rfl (by wtm_at "dx.nd") (by rfl) (by decide) (fun _ => rfl) ?_)
local macro_rules | `(tactic| wtm_at "call") => `(tactic| refine ⟨_, _, (by wtm_at "dx.bnd"), ?_⟩)
local macro_rules | `(tactic| wtm_at "turn0") => `(tactic| refine Dx.turn0 (ρ' := ?_) (by wtm_at "dx.nd") rfl (fun _ _ _ _ _ => (by wtm_at "dx.loc")) (fun _ _ _ _ _ => (by wtm_at "dx.loc")) (by wtm_at "dx.rho") (L2.iteT fun s0 H0 C0 cl0 fp0 => ?_))
local macro_rules | `(tactic| wtm_at "turn1") => `(tactic| refine Dx.turn1 (ρ' := ?_) (by wtm_at "dx.nd") rfl (fun _ _ _ _ _ => (by wtm_at "dx.loc")) (fun _ _ _ _ _ => (by wtm_at "dx.loc")) (by wtm_at "dx.rho") (fun s0 H0 C0 cl0 fp0 => ?_))
local macro_rules | `(tactic| wtm_at "nv") => `(tactic| (intro _ _ _ _ _; wtm_at "dx.loc"))
local macro_rules | `(tactic| wtm_at "hours") => `(tactic| (refine Dx.d_prop (cn := "Hours") (by assumption) (Pk.Env5.pH (by assumption)) (Pk.Txt.cl (by assumption)) (by wtm_at "room") rfl ?_))
local macro_rules | `(tactic| wtm_at "hx.b") => `(tactic| first
  | ((with_reducible show Dx.DO _ _ (PySem.binaryOp .Add) (Pk.hoursD _ _) (Pk.hoursD _ _) _ _); refine Pk.h_add (by assumption) (by wtm_at "room") (by assumption) (by assumption) (fun _ => ?_))
  | ((with_reducible show Dx.DO _ _ (PySem.binaryOp .Sub) (Pk.hoursD _ _) (Pk.hoursD _ _) _ _); refine Pk.h_sub (by assumption) (by wtm_at "room") (by assumption) (by assumption) (fun _ => ?_))
  | ((with_reducible show Dx.DO _ _ (PySem.binaryOp .BitOr) (Pk.hoursD _ _) (Pk.hoursD _ _) _ _); refine Pk.h_or (by assumption) (by wtm_at "room") (by assumption) (by assumption) (fun _ => ?_))
  | ((with_reducible show Dx.DO _ _ (PySem.binaryOp .BitAnd) (Pk.hoursD _ _) (Pk.hoursD _ _) _ _); refine Pk.h_and (by assumption) (by wtm_at "room") (by assumption) (by assumption) (fun _ => ?_))
  | ((with_reducible show Dx.DO _ _ (PySem.binaryOp .Mult) (Pk.hoursD _ _) (Dx.D.int _) _ _); refine Pk.h_mul (by assumption) (by wtm_at "room") (by assumption) (fun _ => ?_))
  | ((with_reducible show Dx.DU _ _ (PySem.unaryOp .USub) (Pk.hoursD _ _) _ _); refine Pk.h_neg (by assumption) (by wtm_at "room") (by assumption) (fun _ => ?_))
  | ((with_reducible show Dx.DU _ _ (PySem.unaryOp .Invert) (Pk.hoursD _ _) _ _); refine Pk.h_inv (by assumption) (by wtm_at "room") (by assumption) (fun _ => ?_)))
local macro_rules | `(tactic| wtm_at "hx.e") => `(tactic| first
  | ((with_reducible show Dx.DE _ _ (PySem.Expr.Attribute _ "hours" _) _ _); refine Pk.h_hours (by assumption) (by wtm_at "room") rfl ?_)
  | ((with_reducible show Dx.DE _ _ (PySem.Expr.Attribute _ "clock" _) _ _); refine Pk.h_clock (by assumption) (by wtm_at "room") rfl ?_)
  | ((with_reducible show Dx.DE _ _ (PySem.Expr.Call (PySem.Expr.Attribute _ "moved" _) [_] [] _) _ _); refine Pk.h_moved (by assumption) (by wtm_at "room") rfl rfl rfl ?_)
  | ((with_reducible show Dx.DE _ _ (PySem.Expr.Call (PySem.Expr.Attribute _ "moved" _) [] [_] _) _ _); refine Pk.h_movedK (by assumption) (by wtm_at "room") rfl rfl rfl rfl ?_)
  | ((with_reducible show Dx.DE _ _ (PySem.Expr.Call (PySem.Expr.Name "Hours" _) (_ :: _) [] _) _ _); refine Pk.h_make (by assumption) (by wtm_at "room") rfl rfl rfl ?_))
local macro_rules | `(tactic| wtm_at "hx.x") => `(tactic| first
  | ((with_reducible show Pk.Valid _ _ → _); intro _)
  | ((with_reducible show ∃ n ra, _ = Pk.hoursD n ra ∧ _); refine ⟨_, _, rfl, (by assumption), ?_⟩)
  | ((with_reducible show ∃ n ra, Dx.agV _ = some [_, Dx.D.tup (Pk.nats ra)] ∧ _); refine ⟨_, _, rfl, (by assumption), ?_⟩))
local macro_rules | `(tactic| wtm_at "hx") => `(tactic| (repeat first | wtm_at "dx1" | wtm_at "hx.b" | wtm_at "hx.e" | wtm_at "hx.x"))
namespace Pk
open PySem L2 Sx Mx Dx
section
variable {P : Program} {w : World} {K : PySem.W.Frag} {mg : Str → Option Value} {base : Heap} {C : Addr} {cl : Str → Option Addr}
def Purse (ps : List D) : Prop := ∃ p q : Int, ps = [.int p, .int q] ∧ 0 ≤ p
def spDraw : DSp := fun ds Q => ∃ (ps : List D) (m : Int), ds = [.bor ps, .int m] ∧ Purse ps ∧ 0 < m ∧ m < 1073741824 ∧ ∀ (r : Int) (ps' : List D), 0 ≤ r → r < m → Purse ps' → Q (.int r) [ps']
theorem scDraw : FnScope ["purse", "many", "digit"] ["purse", "many"] (defScope (top 37)) := ⟨rfl, rfl, rfl, by decide +kernel, rfl, by decide +kernel, by decide +kernel⟩
theorem ok_draw {f : Addr} {fd : FuncData} (F : Fun K "_law_draw" "_law_draw" (top 37) f fd) (B : Blt mg) : FnOk P w K mg base CX0 1 f fd ["purse", "many"] (toSp K w cl spDraw) := by
  refine dfn F scDraw (fun ds Q h => ?_) (fun cdv A outer s H E ds O ba Q hr h => ?_)
  · obtain ⟨ps, m, rfl, _⟩ := h
    rfl
  · obtain ⟨ps, m, rfl, ⟨p, q, rfl, hp⟩, hm0, hm1, k⟩ := h
    have nd := scDraw.nd
    wtm_at "dx"
    refine brD (fun h => ?_) (fun h => ?_)
    · wtm_at "dx"
      exact k _ _ (Int.emod_nonneg _ (by omega)) (Int.emod_lt_of_pos _ hm0) ⟨_, _, rfl, Int.ediv_nonneg hp (by omega)⟩
    · wtm_at "dx"
      exact k _ _ (Int.emod_nonneg _ (by omega)) (Int.emod_lt_of_pos _ hm0) ⟨_, _, rfl, hp⟩
def spSome : DSp := fun ds Q => ∃ (ps : List D) (m : Int), ds = [.bor ps, .int m] ∧ Purse ps ∧ 0 < m ∧ m < 1000 ∧ ∀ (row : List Nat) (ps' : List D), row.Pairwise (· < ·) → (∀ k ∈ row, (k : Int) < m) → Purse ps' → Q (.tup (nats row)) [ps']
theorem scSome : FnScope ["purse", "many", "rate", "k"] ["purse", "many"] (defScope (top 38)) := ⟨rfl, rfl, rfl, by decide +kernel, rfl, by decide +kernel, by decide +kernel⟩
theorem ok_some {f : Addr} {fd : FuncData} (F : Fun K "_law_some" "_law_some" (top 38) f fd) (B : Blt mg) (cD : Callable P w K mg base "_law_draw" 1 ["purse", "many"] (toSp K w cl spDraw)) : FnOk P w K mg base CX0 2 f fd ["purse", "many"] (toSp K w cl spSome) := by
  refine dfn F scSome (fun ds Q h => ?_) (fun cdv A outer s H E ds O ba Q hr h => ?_)
  · obtain ⟨ps, m, rfl, _⟩ := h
    rfl
  · obtain ⟨ps, m, rfl, hp, hm0, hm1, k⟩ := h
    have nd := scSome.nd
    wtm_at "dx"
    wtm_at "call"
    refine ⟨ps, 4, rfl, hp, by decide, by decide, fun r ps1 h0 h1 hp1 => ?_⟩
    wtm_at "dx"
    wtm_at "lc"
    wtm_at "di.R1"
    wtm_at "dx"
    refine ⟨by omega, fun hs D' => dlc_inv (fun i acc ρ => ∃ row ps, acc = nats row ∧ row.Pairwise (· < ·) ∧ (∀ k ∈ row, k < i) ∧ Purse ps ∧ ρ = [some (.bor ps), some (.int m), some (.int (2 + r)), none]) ⟨[], ps1, rfl, .nil, by simp, hp1, rfl⟩ (fun i d acc ρ hd ⟨row, ps2, e1, h2, h3, hp2, e2⟩ => ?_) (fun acc ρ ⟨row, ps2, e1, h2, h3, hp2, e2⟩ => ?_)⟩
    · subst e1
      subst e2
      have hi : i < m.toNat := by have := (List.getElem?_eq_some_iff.mp hd).1; rwa [rng_len] at this
      rw [rng_get hi] at hd
      cases hd
      wtm_at "turn1"
      wtm_at "dx"
      wtm_at "call"
      refine ⟨ps2, 2 + r, rfl, hp2, by omega, by omega, fun r2 ps3 _ _ hp3 => ?_⟩
      wtm_at "dx"
      have hl : row.length < 100000 := by
        have := asc_len h2 h3
        omega
      refine brD (fun hz s1 H1 C1 cl1 fp1 => ?_) (fun hz => ?_)
      · wtm_at "dx"
        refine ⟨Sx.size5l (by unfold nats; rw [List.length_map]; exact hl), row ++ [i], ps3, ?_, ?_, ?_, hp3, by wtm_at "dx.rho"⟩
        · unfold nats
          rw [List.map_append]
          simp
        · exact List.pairwise_append.mpr ⟨h2, List.pairwise_singleton _ _, fun x hx y hy => by rw [List.mem_singleton.mp hy]; exact h3 x hx⟩
        · intro k hk
          rcases List.mem_append.mp hk with h | h
          · exact Nat.lt_succ_of_lt (h3 k h)
          · rw [List.mem_singleton.mp h]
            exact Nat.lt_succ_self _
      · exact ⟨row, ps3, rfl, h2, fun k hk => Nat.lt_succ_of_lt (h3 k hk), hp3, by wtm_at "dx.rho"⟩
    · subst e1
      subst e2
      wtm_at "dx"
      exact k row ps2 h2 (fun k hk => by have := h3 k hk; rw [rng_len] at this; omega) hp2
/-! ### own sums -/
def fsum (n : Nat) (A B : List Nat) : List Nat := A.flatMap fun x => B.map fun y => (x + y) % n
theorem fsum_take {n : Nat} {A B : List Nat} {i x : Nat} (h : A[i]? = some x) : fsum n (A.take (i + 1)) B = fsum n (A.take i) B ++ B.map fun y => (x + y) % n := by
  unfold fsum
  rw [List.take_add_one, h, List.flatMap_append]
  simp
theorem fsum_len {n : Nat} {B : List Nat} (hB : B.length ≤ 30) : ∀ A : List Nat, A.length ≤ 30 → (fsum n A B).length ≤ 30 * A.length
  | [], _ => by simp [fsum]
  | a :: A, h => by
    have := fsum_len (n := n) hB A (by simp at h; omega)
    have e : fsum n (a :: A) B = (B.map fun y => (a + y) % n) ++ fsum n A B := by simp [fsum]
    rw [e, List.length_append, List.length_map, List.length_cons]
    omega
theorem Valid.len {n : Nat} {row : List Nat} (h : Valid n row) : row.length ≤ n := asc_len h.asc h.lt
theorem nats_len (row : List Nat) : (nats row).length = row.length := by unfold nats; rw [List.length_map]
theorem nats_get {row : List Nat} {i : Nat} {d : D} (h : (nats row)[i]? = some d) : ∃ y, row[i]? = some y ∧ d = .int (y : Nat) := by
  unfold nats at h
  rw [List.getElem?_map] at h
  obtain ⟨y, hy, rfl⟩ := Option.map_eq_some_iff.mp h
  exact ⟨y, hy, rfl⟩
theorem nats_mem {row : List Nat} {d : D} (h : d ∈ nats row) : ∃ y ∈ row, d = .int (y : Nat) := by
  obtain ⟨y, hy, e⟩ := List.mem_map.mp h
  exact ⟨y, hy, e.symm⟩
theorem nats_app (a b : List Nat) : nats (a ++ b) = nats a ++ nats b := by unfold nats; rw [List.map_append]
def spLSums : DSp := fun ds Q => ∃ (n : Nat) (ra rb : List Nat), ds = [.int n, .tup (nats ra), .tup (nats rb)] ∧ Valid n ra ∧ Valid n rb ∧ n ≤ 30 ∧ Q (.tup (nats (bitsL (sumsN n (maskN ra) (maskN rb))))) []
theorem scLSums : FnScope ["many", "row", "mates", "found", "x", "y"] ["many", "row", "mates"] (defScope (top 39)) := ⟨rfl, rfl, rfl, by decide +kernel, rfl, by decide +kernel, by decide +kernel⟩
def natOf : D → Nat
  | .int i => i.toNat
  | _ => 0
theorem map_nats (ra : List Nat) (G : Nat → Int) : ((nats ra).map fun d => (D.int (G (natOf d))).fz) = (ra.map G).map D.int := by
  unfold nats
  rw [List.map_map, List.map_map]
  exact List.map_congr_left fun y _ => rfl
theorem filt_nats (ra : List Nat) (p : Nat → Bool) : (((nats ra).filter fun d => p (natOf d)).map fun d => d.fz) = nats (ra.filter p) := by
  induction ra with
  | nil => rfl
  | cons a ra ih =>
    have e : nats (a :: ra) = .int (a : Nat) :: nats ra := rfl
    rw [e, List.filter_cons, List.filter_cons]
    have h : p (natOf (.int ((a : Nat) : Int))) = p a := rfl
    rw [h]
    cases hp : p a with
    | true => simp only [if_true, List.map_cons, ih]; rfl
    | false => simpa using ih
theorem rng_nats (n : Nat) : rng 0 ((n : Int)).toNat = nats (List.range n) := by
  unfold rng nats
  rw [Int.toNat_natCast]
  exact List.map_congr_left fun k _ => by rw [Int.zero_add]
theorem toD {ms : List Int} {row : List Nat} (h : ms = row.map fun z : Nat => (z : Int)) : ms.map D.int = nats row := by rw [h, nats_int]
theorem toD' {ms : List Int} {row : List Nat} (h : ms.map V.int = rowV row) : ms.map D.int = nats row := by
  refine toD ?_
  have h2 : ms.map V.int = (row.map fun z : Nat => (z : Int)).map V.int := by rw [h, List.map_map]; rfl
  exact List.map_inj_right (fun x y e => V.int.inj e) |>.mp h2
theorem ok_lsums {f : Addr} {fd : FuncData} (F : Fun K "_law_sums" "_law_sums" (top 39) f fd) (B : Blt mg) : FnOk P w K mg base CX0 1 f fd ["many", "row", "mates"] (toSp K w cl spLSums) := by
  refine dfn F scLSums (fun ds Q h => ?_) (fun cdv A outer s H E ds O ba Q hr h => ?_)
  · obtain ⟨n, ra, rb, rfl, _⟩ := h
    rfl
  · obtain ⟨n, ra, rb, rfl, hv, hv', hn, k⟩ := h
    have nd := scLSums.nd
    have pos := hv.pos
    have la : ra.length ≤ n := asc_len hv.asc hv.lt
    have lb : rb.length ≤ n := asc_len hv'.asc hv'.lt
    wtm_at "dx"
    wtm_at "for"
    wtm_at "di.T"
    wtm_at "dx"
    refine ⟨_, rfl, fun hs => dfor_inv (fun i ρ => ∃ v5, ρ = [some (.int n), some (.tup (nats ra)), some (.tup (nats rb)), some (.lst (nats (fsum n (ra.take i) rb))), v5, none]) ⟨none, rfl⟩ (fun i d ρ hd ⟨v5, e⟩ => ?_) (fun ρ ⟨v5, e⟩ => ?_)⟩
    · subst e
      obtain ⟨x, hx, rfl⟩ := nats_get hd
      wtm_at "dx"
      wtm_at "lc"
      wtm_at "di.T"
      wtm_at "dx"
      refine ⟨_, rfl, fun hs1 D' => dlc_map (fun d => .int (((x : Int) + natOf d) % n)) nd rfl (by wtm_at "nv") (by wtm_at "nv") rfl (by rw [nats_len]; omega) (fun d hd Q q s0 H0 C0 cl0 fp0 => ?_) ?_⟩
      · obtain ⟨y, hy, rfl⟩ := nats_mem hd
        wtm_at "dx"
        exact q
      · have e1 : ((nats rb).map fun d => (D.int (((x : Int) + natOf d) % n)).fz) = nats (rb.map fun y => (x + y) % n) := by
          unfold nats
          rw [List.map_map, List.map_map]
          exact List.map_congr_left fun y _ => by
            show D.int (((x : Int) + ((y : Int).toNat : Nat)) % n) = D.int ((((x + y) % n : Nat)) : Int)
            rw [Int.toNat_natCast]
            rfl
        rw [e1]
        have l1 : (fsum n (ra.take i) rb).length ≤ 900 := Nat.le_trans (fsum_len (by omega) _ (Nat.le_trans (List.length_take_le' _ _) (by omega))) (by have := List.length_take_le' i ra; omega)
        refine do_catL (Sx.size5 (by rw [nats_len, nats_len, List.length_map]; omega)) ?_
        rw [← nats_app, ← fsum_take hx]
        wtm_at "dx"
        exact ⟨_, rfl⟩
    · subst e
      rw [nats_len, List.take_length]
      wtm_at "dx"
      rw [nats_int]
      have l1 : (fsum n ra rb).length ≤ 900 := Nat.le_trans (fsum_len (by omega) _ (by omega)) (by omega)
      have mem : ∀ k : Int, k ∈ (fsum n ra rb).map (fun z : Nat => (z : Int)) ↔ ∃ z ∈ bitsL (sumsN n (maskN ra) (maskN rb)), (z : Int) = k := by
        intro k
        rw [List.mem_map]
        constructor
        · rintro ⟨z, hz, rfl⟩
          obtain ⟨x, hx, hz⟩ := List.mem_flatMap.mp hz
          obtain ⟨y, hy, rfl⟩ := List.mem_map.mp hz
          exact ⟨_, (mem_sums hv.lt hv'.lt _).mpr ⟨x, hx, y, hy, rfl, Nat.mod_lt _ pos⟩, rfl⟩
        · rintro ⟨z, hz, rfl⟩
          obtain ⟨x, hx, y, hy, e, _⟩ := (mem_sums hv.lt hv'.lt _).mp hz
          exact ⟨z, List.mem_flatMap.mpr ⟨x, hx, List.mem_map.mpr ⟨y, hy, e⟩⟩, rfl⟩
      refine dc_setL rfl (by rw [List.length_map]; omega) ?_
      wtm_at "dx"
      refine dc_sortSet rfl (fun ks hks hm => ?_) (fun ms h1 h2 => ?_)
      · have hlen : ks.length ≤ n := nodup_lt hks fun k hk => by
          obtain ⟨z, hz, e⟩ := (mem k).mp ((hm k).mp hk)
          have := bit_lt (sumsN_lt _ _ _) hz
          omega
        omega
      · wtm_at "dx"
        rw [toD (int_row h1 (asc_bitsL _) fun k => (h2 k).trans (mem k))]
        exact k
end
end Pk

end
section -- Lc
set_option maxRecDepth 100000
set_option maxHeartbeats 8000000
local macro_rules | `(tactic| wtm_at "dx.vis") => `(tactic| first | exact Or.inl rfl | exact Or.inr (Or.inl rfl) | exact Or.inr (Or.inr rfl))
local macro_rules | `(tactic| wtm_at "dx.loc") => `(tactic| first | exact Or.inl rfl | exact Or.inr rfl)
local macro_rules | `(tactic| wtm_at "dx.nd") => `(tactic| first | assumption | decide +kernel)
local macro_rules | `(tactic| wtm_at "room") => `(tactic| first | assumption | exact L2.Room.mono (by assumption) (by decide))
local macro_rules | `(tactic| wtm_at "size") => `(tactic| first
  | exact Nat.le_of_ble_eq_true rfl
  | exact Sx.size5 (by first | omega | (simp only [List.length_cons, List.length_nil, List.length_append, List.length_map, List.length_replicate]; omega))
  | exact Sx.size5l (by first | omega | (simp only [List.length_cons, List.length_nil, List.length_append, List.length_map, List.length_replicate]; omega)))
-- the slots written out
local macro_rules | `(tactic| wtm_at "dx.rho") => `(tactic| (simp (decide := true) only [L2.cxOf, L2.Cx.nox, Dx.startE, Dx.setE, Dx.putOut, Dx.D.put, Dx.D.fz, Dx.wipeE, List.map, List.map_cons, List.map_nil, List.length_cons, List.length_nil, List.replicate_succ, List.replicate_zero, List.cons_append, List.nil_append, List.append_nil, List.set_cons_succ, List.set_cons_zero, List.getElem?_cons_succ, List.getElem?_cons_zero, Nat.reduceAdd, Nat.reduceSub, Int.reduceToNat, if_true, if_false, ite_true, ite_false, reduceIte] <;> exact rfl))
local macro_rules | `(tactic| wtm_at "dx.n") => `(tactic| first
  | ((with_reducible show Dx.DSs _ _ _ _ (_)); first | ((with_reducible show Dx.DSs _ _ _ _ (Dx.setE _ _ _ _)); refine Dx.dss_env (ρ' := ?_) (by wtm_at "dx.rho") ?_) | ((with_reducible show Dx.DSs _ _ _ _ (Dx.putOut _ _ _)); refine Dx.dss_env (ρ' := ?_) (by wtm_at "dx.rho") ?_) | ((with_reducible show Dx.DSs _ _ _ _ (Dx.startE _ _)); refine Dx.dss_env (ρ' := ?_) (by wtm_at "dx.rho") ?_) | ((with_reducible show Dx.DSs _ _ _ _ (List.set _ _ _)); refine Dx.dss_env (ρ' := ?_) (by wtm_at "dx.rho") ?_) | ((with_reducible show Dx.DSs _ _ _ _ (Dx.wipeE _ _)); refine Dx.dss_env (ρ' := ?_) (by wtm_at "dx.rho") ?_))
  | ((with_reducible show Dx.DE _ _ _ (_) _); first | ((with_reducible show Dx.DE _ _ _ (Dx.setE _ _ _ _) _); refine Dx.de_env (ρ' := ?_) (by wtm_at "dx.rho") ?_) | ((with_reducible show Dx.DE _ _ _ (Dx.putOut _ _ _) _); refine Dx.de_env (ρ' := ?_) (by wtm_at "dx.rho") ?_) | ((with_reducible show Dx.DE _ _ _ (Dx.startE _ _) _); refine Dx.de_env (ρ' := ?_) (by wtm_at "dx.rho") ?_) | ((with_reducible show Dx.DE _ _ _ (List.set _ _ _) _); refine Dx.de_env (ρ' := ?_) (by wtm_at "dx.rho") ?_) | ((with_reducible show Dx.DE _ _ _ (Dx.wipeE _ _) _); refine Dx.de_env (ρ' := ?_) (by wtm_at "dx.rho") ?_))
  | ((with_reducible show Dx.DT _ _ _ (_) _); first | ((with_reducible show Dx.DT _ _ _ (Dx.setE _ _ _ _) _); refine Dx.dt_env (ρ' := ?_) (by wtm_at "dx.rho") ?_) | ((with_reducible show Dx.DT _ _ _ (Dx.putOut _ _ _) _); refine Dx.dt_env (ρ' := ?_) (by wtm_at "dx.rho") ?_) | ((with_reducible show Dx.DT _ _ _ (Dx.startE _ _) _); refine Dx.dt_env (ρ' := ?_) (by wtm_at "dx.rho") ?_) | ((with_reducible show Dx.DT _ _ _ (List.set _ _ _) _); refine Dx.dt_env (ρ' := ?_) (by wtm_at "dx.rho") ?_) | ((with_reducible show Dx.DT _ _ _ (Dx.wipeE _ _) _); refine Dx.dt_env (ρ' := ?_) (by wtm_at "dx.rho") ?_))
  | ((with_reducible show Dx.DG _ _ _ _ (_) _); first | ((with_reducible show Dx.DG _ _ _ _ (Dx.setE _ _ _ _) _); refine Dx.dg_env (ρ' := ?_) (by wtm_at "dx.rho") ?_) | ((with_reducible show Dx.DG _ _ _ _ (Dx.putOut _ _ _) _); refine Dx.dg_env (ρ' := ?_) (by wtm_at "dx.rho") ?_) | ((with_reducible show Dx.DG _ _ _ _ (Dx.startE _ _) _); refine Dx.dg_env (ρ' := ?_) (by wtm_at "dx.rho") ?_) | ((with_reducible show Dx.DG _ _ _ _ (List.set _ _ _) _); refine Dx.dg_env (ρ' := ?_) (by wtm_at "dx.rho") ?_) | ((with_reducible show Dx.DG _ _ _ _ (Dx.wipeE _ _) _); refine Dx.dg_env (ρ' := ?_) (by wtm_at "dx.rho") ?_))
  | ((with_reducible show Dx.DGs _ _ _ _ (_) _); first | ((with_reducible show Dx.DGs _ _ _ _ (Dx.setE _ _ _ _) _); refine Dx.dgs_env (ρ' := ?_) (by wtm_at "dx.rho") ?_) | ((with_reducible show Dx.DGs _ _ _ _ (Dx.putOut _ _ _) _); refine Dx.dgs_env (ρ' := ?_) (by wtm_at "dx.rho") ?_) | ((with_reducible show Dx.DGs _ _ _ _ (Dx.startE _ _) _); refine Dx.dgs_env (ρ' := ?_) (by wtm_at "dx.rho") ?_) | ((with_reducible show Dx.DGs _ _ _ _ (List.set _ _ _) _); refine Dx.dgs_env (ρ' := ?_) (by wtm_at "dx.rho") ?_) | ((with_reducible show Dx.DGs _ _ _ _ (Dx.wipeE _ _) _); refine Dx.dgs_env (ρ' := ?_) (by wtm_at "dx.rho") ?_)))
-- expressions
local macro_rules | `(tactic| wtm_at "dx.e") => `(tactic| first
  | wtm_at "dx.n"
  | with_reducible refine Dx.d_int ?_
  | with_reducible refine Dx.d_bl ?_
  | with_reducible refine Dx.d_non ?_
  | with_reducible refine Dx.d_str ?_
  | ((with_reducible show Dx.DE _ _ (PySem.Expr.Name _ _) _ _); refine Dx.d_name rfl rfl (by wtm_at "dx.vis") (by decide) (by decide) ?_)
  | ((with_reducible show Dx.DE _ _ (PySem.Expr.Name _ _) _ _); refine Dx.d_nameO (by wtm_at "dx.nd") rfl (by wtm_at "dx.vis") (by decide) (by decide) ?_)
  | ((with_reducible show Dx.DE _ _ (PySem.Expr.Name "int" _) _ _); refine Dx.d_bltTy (T := "int") rfl (Sx.Blt.int (by assumption)) (by decide +kernel) (by decide) (by decide) ?_)
  | ((with_reducible show Dx.DE _ _ (PySem.Expr.Name "bool" _) _ _); refine Dx.d_bltTy (T := "bool") rfl (Sx.Blt.bool (by assumption)) (by decide +kernel) (by decide) (by decide) ?_)
  | ((with_reducible show Dx.DE _ _ (PySem.Expr.Name "tuple" _) _ _); refine Dx.d_bltTy (T := "tuple") rfl (Sx.Blt.tuple (by assumption)) (by decide +kernel) (by decide) (by decide) ?_)
  | ((with_reducible show Dx.DE _ _ (PySem.Expr.Name "str" _) _ _); refine Dx.d_bltTy (T := "str") rfl (Sx.Blt.str (by assumption)) (by decide +kernel) (by decide) (by decide) ?_)
  | ((with_reducible show Dx.DE _ _ (PySem.Expr.Name _ _) _ _); refine Dx.d_globI rfl (by assumption) (by decide) ?_)
  | with_reducible refine Dx.d_bin ?_
  | with_reducible refine Dx.d_not ?_
  | with_reducible refine Dx.d_un ?_
  | ((with_reducible refine Dx.d_cmp ?_ ?_); (next => first | rfl | exact L2.nomark _))
  | with_reducible refine Dx.d_one ?_
  | ((with_reducible show Dx.DE _ _ (PySem.Expr.Compare _ [_, _] [_, _] _) _ _); refine Dx.d_chain (by with_unfolding_all rfl) ?_)
  | with_reducible refine Dx.d_and ?_
  | with_reducible refine Dx.d_or ?_
  | with_reducible refine Dx.d_if ?_
  | with_reducible refine Dx.d_tup ?_
  | with_reducible refine Dx.d_lst ?_
  | with_reducible refine Dx.d_sl ?_
  | ((with_reducible show Dx.DE _ _ (PySem.Expr.Subscript (PySem.Expr.Name _ _) _ _) _ _); refine Dx.d_ixO (fun _ _ => rfl) rfl rfl (by wtm_at "dx.vis") (by decide) (by decide) (by wtm_at "dx.nd") ?_)
  | ((with_reducible refine Dx.d_ix ?_ ?_); (next => exact fun _ _ => rfl))
  | ((with_reducible show Dx.DE _ _ (PySem.Expr.Call (PySem.Expr.Name "len" _) [PySem.Expr.Name _ _] [] _) _ _); refine Dx.d_lenO (by assumption) rfl rfl rfl (by wtm_at "dx.vis") (by decide) (by decide) rfl ?_)
  | ((with_reducible show Dx.DE _ _ (PySem.Expr.Call (PySem.Expr.Attribute (PySem.Expr.Name _ _) "append" _) [_] [] _) _ _); refine Dx.d_append (by wtm_at "dx.nd") rfl rfl rfl rfl rfl rfl rfl (by wtm_at "dx.vis") (by decide) (by decide) ?_)
  | ((with_reducible show Dx.DE _ _ (PySem.Expr.Call (PySem.Expr.Attribute (PySem.Expr.Name _ _) "pop" _) [_] [] _) _ _); refine Dx.d_popAt (by wtm_at "dx.nd") rfl rfl rfl rfl rfl rfl rfl (by wtm_at "dx.vis") (by decide) (by decide) ?_)
  | wtm_at "dx.blt"
  | wtm_at "dx.f")
-- arguments: the purse is lent
local macro_rules | `(tactic| wtm_at "dx.a") => `(tactic| first
  | with_reducible refine Dx.da_nil ?_
  | ((with_reducible show Dx.DA _ _ (PySem.Expr.Name "purse" _ :: _) _ _); first | refine Dx.da_lend (i := 0) rfl ⟨_, rfl⟩ (by wtm_at "dx.vis") (by decide) (by decide) rfl ?_ | refine Dx.da_lend (i := 1) rfl ⟨_, rfl⟩ (by wtm_at "dx.vis") (by decide) (by decide) rfl ?_ | refine Dx.da_lend (i := 2) rfl ⟨_, rfl⟩ (by wtm_at "dx.vis") (by decide) (by decide) rfl ?_ | refine Dx.da_lend (i := 3) rfl ⟨_, rfl⟩ (by wtm_at "dx.vis") (by decide) (by decide) rfl ?_ | refine Dx.da_lend (i := 4) rfl ⟨_, rfl⟩ (by wtm_at "dx.vis") (by decide) (by decide) rfl ?_ | refine Dx.da_lend (i := 5) rfl ⟨_, rfl⟩ (by wtm_at "dx.vis") (by decide) (by decide) rfl ?_ | refine Dx.da_lend (i := 6) rfl ⟨_, rfl⟩ (by wtm_at "dx.vis") (by decide) (by decide) rfl ?_ | refine Dx.da_lend (i := 7) rfl ⟨_, rfl⟩ (by wtm_at "dx.vis") (by decide) (by decide) rfl ?_ | refine Dx.da_lend (i := 8) rfl ⟨_, rfl⟩ (by wtm_at "dx.vis") (by decide) (by decide) rfl ?_ | refine Dx.da_lend (i := 9) rfl ⟨_, rfl⟩ (by wtm_at "dx.vis") (by decide) (by decide) rfl ?_)
  | ((with_reducible refine Dx.da_cons ?_ ?_); (next => rfl)))
local macro_rules | `(tactic| wtm_at "dx.t") => `(tactic| first
  | wtm_at "dx.n"
  | ((with_reducible refine Dx.dt_cmp ?_ ?_); (next => first | rfl | exact L2.nomark _))
  | with_reducible refine Dx.dt_not ?_
  | with_reducible refine Dx.dw_and ?_
  | with_reducible refine Dx.dw_and1 ?_
  | with_reducible refine Dx.dw_or ?_
  | with_reducible refine Dx.dw_or1 ?_
  | (with_reducible refine Dx.dt_pw (e := .BoolOp _ _ _) ?_)
  | ((with_reducible refine Dx.dt_val ?_ ?_); (next => (intro _; rfl))))
local macro_rules | `(tactic| wtm_at "dx.s") => `(tactic| first
  | wtm_at "dx.n"
  | with_reducible refine Dx.ds_nil ?_
  | with_reducible refine Dx.ds_cons ?_
  | with_reducible refine Dx.ds_pass ?_
  | with_reducible refine Dx.ds_break ?_
  | with_reducible refine Dx.ds_continue ?_
  | with_reducible refine Dx.ds_ret ?_
  | with_reducible refine Dx.ds_retN ?_
  | with_reducible refine Dx.ds_if ?_
  | ((with_reducible refine Dx.ds_expr ?_ ?_); (next => rfl))
  | ((with_reducible show Dx.DS _ _ (PySem.Stmt.Assign [PySem.Expr.Name "due" _] (PySem.Expr.List _ _) _) _ _); refine Dx.ds_own (by wtm_at "dx.nd") rfl (by wtm_at "dx.loc") (.inl rfl) rfl ?_)
  | ((with_reducible show Dx.DS _ _ (PySem.Stmt.Assign [PySem.Expr.Name "told" _] (PySem.Expr.List _ _) _) _ _); refine Dx.ds_own (by wtm_at "dx.nd") rfl (by wtm_at "dx.loc") (.inl rfl) rfl ?_)
  | ((with_reducible show Dx.DS _ _ (PySem.Stmt.Assign [PySem.Expr.Name "made" _] (PySem.Expr.List _ _) _) _ _); refine Dx.ds_own (by wtm_at "dx.nd") rfl (by wtm_at "dx.loc") (.inl rfl) rfl ?_)
  | ((with_reducible show Dx.DS _ _ (PySem.Stmt.Assign [PySem.Expr.Name "shots" _] (PySem.Expr.List _ _) _) _ _); refine Dx.ds_own (by wtm_at "dx.nd") rfl (by wtm_at "dx.loc") (.inl rfl) rfl ?_)
  | ((with_reducible refine Dx.ds_set ?_ ?_ ?_ ?_ ?_ ?_); (next => wtm_at "dx.nd"); (next => rfl); (next => wtm_at "dx.loc"); (next => exact .inl rfl); (next => rfl))
  | ((with_reducible show Dx.DS _ _ (PySem.Stmt.Assign [PySem.Expr.Tuple [_, _] _ _] (PySem.Expr.Tuple [_, _] _ _) _) _ _); refine Dx.ds_par rfl (by wtm_at "dx.nd") rfl rfl (by decide) rfl rfl rfl rfl ?_)
  | ((with_reducible show Dx.DS _ _ (PySem.Stmt.Assign [PySem.Expr.Tuple [_, _, _] _ _] (PySem.Expr.Tuple [_, _, _] _ _) _) _ _); refine Dx.ds_par3 rfl (by wtm_at "dx.nd") rfl rfl rfl (by decide) (by decide) (by decide) rfl rfl rfl rfl rfl ?_)
  | ((with_reducible refine Dx.ds_asg ?_ ?_ ?_ ?_); (next => rfl); (next => rfl); (next => rfl))
  | ((with_reducible show Dx.DSs _ _ _ _ _); refine Dx.ds_cons ?_))
local macro_rules | `(tactic| wtm_at "dx.g") => `(tactic| first
  | wtm_at "dx.n"
  | ((with_reducible refine Dx.dg_name ?_ ?_ ?_ ?_ ?_); (next => wtm_at "dx.nd"); (next => rfl); (next => wtm_at "dx.loc"); (next => exact .inl rfl))
  | ((with_reducible show Dx.DG _ _ (PySem.Expr.Tuple _ _ _) _ _ _); refine Dx.dg_tup rfl rfl rfl rfl ?_)
  | with_reducible refine Dx.dgs_nil ?_
  | ((with_reducible refine Dx.dgs_cons ?_ ?_); (next => rfl))
  | ((with_reducible show Dx.DG _ _ (PySem.Expr.Subscript (PySem.Expr.Name _ _) _ _) _ _ _); refine Dx.dg_sub (by wtm_at "dx.nd") (fun _ => rfl) rfl (by wtm_at "dx.vis") (by decide) (by decide) ?_))
-- values
local macro_rules | `(tactic| wtm_at "dx.vb") => `(tactic| first
  | with_reducible refine Dx.do_add ?_
  | with_reducible refine Dx.do_sub ?_
  | with_reducible refine Dx.do_orN ?_
  | with_reducible refine Dx.do_andN ?_
  | with_reducible refine Dx.do_andOne ?_
  | with_reducible refine Dx.do_xorN ?_
  | with_reducible refine Dx.do_shrN ?_
  | ((with_reducible refine Dx.do_oneShl ?_ ?_); (next => omega))
  | ((with_reducible refine Dx.do_mod ?_ ?_); (next => first | decide | assumption | omega))
  | ((with_reducible refine Dx.do_pow ?_ ?_); (next => decide))
  | ((with_reducible refine Dx.do_mul ?_ ?_); (next => first | exact Sx.mulL (by omega) (by omega) | exact Sx.mulR (by omega) (by omega)))
  | ((with_reducible refine Dx.do_fdiv ?_ ?_ ?_); (next => first | decide | assumption | omega); (next => first | decide | exact Dx.small8999 (by omega)))
  | ((with_reducible refine Dx.do_catL ?_ ?_); (next => wtm_at "size"))
  | ((with_reducible refine Dx.do_catT ?_ ?_); (next => wtm_at "size")))
local macro_rules | `(tactic| wtm_at "dx.vc") => `(tactic| first
  | with_reducible refine Dx.dc_lt ?_
  | with_reducible refine Dx.dc_le ?_
  | with_reducible refine Dx.dc_gt ?_
  | with_reducible refine Dx.dc_ge ?_
  | with_reducible refine Dx.dc_eqI ?_
  | with_reducible refine Dx.dc_neI ?_
  | with_reducible refine Dx.dc_eqS ?_
  | with_reducible refine Dx.dc_neS ?_
  | with_reducible refine Dx.dc_eqB ?_
  | with_reducible refine Dx.dc_neB ?_
  | with_reducible refine Dx.dc_isN ?_
  | with_reducible refine Dx.dc_notN ?_)
local macro_rules | `(tactic| wtm_at "dx.vf") => `(tactic| first
  | with_reducible refine Dx.dc_int1 ?_
  | with_reducible refine Dx.dc_abs ?_
  | ((with_reducible refine Dx.dc_divmod ?_ ?_); (next => first | decide | (constructor <;> omega)))
  | ((with_reducible refine Dx.dc_max2 ?_ ?_); (next => rfl))
  | ((with_reducible refine Dx.dc_min2 ?_ ?_); (next => rfl))
  | with_reducible refine Dx.dc_lenT ?_
  | with_reducible refine Dx.dc_lenL ?_
  | with_reducible refine Dx.dc_lenR ?_
  | with_reducible refine Dx.dc_tupL ?_
  | with_reducible refine Dx.dc_tupT ?_
  | with_reducible refine Dx.dc_lstL ?_
  | with_reducible refine Dx.dc_lstT ?_)
local macro_rules | `(tactic| wtm_at "dx.vr") => `(tactic| first
  | with_reducible refine Dx.du_neg ?_
  | with_reducible refine Dx.dtr_nat ?_
  | with_reducible refine Dx.dtr_tup ?_
  | with_reducible refine Dx.dtr_lst ?_
  | with_reducible refine Dx.dtr_non ?_
  | with_reducible refine Dx.du_inv ?_
  | with_reducible refine Dx.dtr_bl ?_
  | with_reducible refine Dx.dtr_int ?_
  | with_reducible refine Dx.dsl_lst ?_
  | with_reducible refine Dx.dsl_scr ?_
  | with_reducible refine Dx.dsl_tup ?_
  | ((with_reducible refine Dx.dix_tup ?_ ?_); (next => rfl))
  | ((with_reducible refine Dx.dix_lst ?_ ?_); (next => rfl)))
-- left-overs
local macro_rules | `(tactic| wtm_at "dx.x") => `(tactic| first
  | (with_reducible refine L2.iteT ?_)
  | (with_reducible refine Sx.brNt ?_)
  | (with_reducible refine Sx.brNf ?_)
  | (with_reducible refine L2.iteF ?_)
  | ((with_reducible show Dx.DP _ _ none _ _); refine Dx.dp_none ?_)
  | ((with_reducible show Dx.DP _ _ (some _) _ _); refine Dx.dp_some ?_)
  | ((with_reducible show Dx.DB _ _ _ _ _ _); unfold Dx.DB)
  | (with_reducible refine Dx.exI ?_)
  | (with_reducible refine Dx.exB ?_)
  | ((with_reducible show ∃ ds, Dx.agV _ = some ds ∧ List.length ds ≤ _ ∧ _); refine Dx.exLen rfl (by wtm_at "size") ?_)
  | ((with_reducible show ∃ ds, Dx.agV _ = some ds ∧ _); refine Dx.exVals rfl ?_)
  | ((with_reducible show ∃ ds, Dx.D.own _ = Dx.D.own ds ∧ _); refine ⟨_, rfl, ?_⟩)
  | ((with_reducible show ∃ u v, Dx.agV _ = some [u, v] ∧ _); refine Dx.exPar rfl ?_)
  | ((with_reducible show ∃ u v w, Dx.agV _ = some [u, v, w] ∧ _); refine Dx.exPar3 rfl ?_)
  | ((with_reducible show ∃ _ d1 ds _, _ ∧ _ ∧ Dx.D.items d1 = some ds ∧ _); refine Dx.exIx rfl rfl rfl ?_)
  | ((with_reducible show ∃ _ _ d1 ds, _ ∧ _ ∧ Dx.D.mutIs d1 = some ds ∧ _); refine Dx.exSub rfl rfl rfl ?_)
  | ((with_reducible show ∃ d1 ds, _ ∧ Dx.D.mutIs d1 = some ds ∧ _); refine Dx.exApp rfl rfl (by wtm_at "size") ?_))
local macro_rules | `(tactic| wtm_at "dx.f") => `(tactic| ((with_reducible show Dx.DE _ _ (PySem.Expr.Call (PySem.Expr.Name _ _) (_ :: _) [] _) _ _); refine Dx.d_call (by assumption) (by wtm_at "room") rfl (by decide) rfl rfl ?_))
local macro_rules | `(tactic| wtm_at "dx.bnd") => `(tactic| first | ((with_reducible show Dx.Bnd _ [] _ _); exact .nil) | ((with_reducible show Dx.Bnd _ (Dx.Ag.d _ :: _) _ _); exact .d (by wtm_at "dx.bnd")) | ((with_reducible show Dx.Bnd _ (Dx.Ag.len _ :: _) _ _); first | exact .lend rfl rfl (by wtm_at "dx.bnd") | exact .plain rfl rfl (by wtm_at "dx.bnd")))
local macro_rules | `(tactic| wtm_at "dx.blt") => `(tactic| first
  | ((with_reducible show Dx.DE _ _ (PySem.Expr.Call (PySem.Expr.Name "len" _) _ [] _) _ _); refine Dx.d_callB (id := "len") rfl (Sx.Blt.len (by assumption)) (by decide +kernel) (by decide) (by decide) rfl rfl ?_)
  | ((with_reducible show Dx.DE _ _ (PySem.Expr.Call (PySem.Expr.Name "int" _) _ [] _) _ _); refine Dx.d_callTy (T := "int") rfl (Sx.Blt.int (by assumption)) (by decide +kernel) (by decide) (by decide) rfl rfl ?_)
  | ((with_reducible show Dx.DE _ _ (PySem.Expr.Call (PySem.Expr.Name "abs" _) _ [] _) _ _); refine Dx.d_callB (id := "abs") rfl (Sx.Blt.abs (by assumption)) (by decide +kernel) (by decide) (by decide) rfl rfl ?_)
  | ((with_reducible show Dx.DE _ _ (PySem.Expr.Call (PySem.Expr.Name "tuple" _) _ [] _) _ _); refine Dx.d_callTy (T := "tuple") rfl (Sx.Blt.tuple (by assumption)) (by decide +kernel) (by decide) (by decide) rfl rfl ?_)
  | ((with_reducible show Dx.DE _ _ (PySem.Expr.Call (PySem.Expr.Name "list" _) _ [] _) _ _); refine Dx.d_callTy (T := "list") rfl (Sx.Blt.list (by assumption)) (by decide +kernel) (by decide) (by decide) rfl rfl ?_)
  | ((with_reducible show Dx.DE _ _ (PySem.Expr.Call (PySem.Expr.Name "set" _) _ [] _) _ _); refine Dx.d_callTy (T := "set") rfl (Sx.Blt.set (by assumption)) (by decide +kernel) (by decide) (by decide) rfl rfl ?_)
  | ((with_reducible show Dx.DE _ _ (PySem.Expr.Call (PySem.Expr.Name "sorted" _) _ [] _) _ _); refine Dx.d_callB (id := "sorted") rfl (Sx.Blt.sorted (by assumption)) (by decide +kernel) (by decide) (by decide) rfl rfl ?_)
  | ((with_reducible show Dx.DE _ _ (PySem.Expr.Call (PySem.Expr.Name "all" _) _ [] _) _ _); refine Dx.d_callB (id := "all") rfl (Sx.Blt.all (by assumption)) (by decide +kernel) (by decide) (by decide) rfl rfl ?_)
  | ((with_reducible show Dx.DE _ _ (PySem.Expr.Call (PySem.Expr.Name "divmod" _) _ [] _) _ _); refine Dx.d_callB (id := "divmod") rfl (Sx.Blt.divmod (by assumption)) (by decide +kernel) (by decide) (by decide) rfl rfl ?_)
  | ((with_reducible show Dx.DE _ _ (PySem.Expr.Call (PySem.Expr.Name "isinstance" _) _ [] _) _ _); refine Dx.d_callB (id := "isinstance") rfl (Sx.Blt.isinstance (by assumption)) (by decide +kernel) (by decide) (by decide) rfl rfl ?_)
  | ((with_reducible show Dx.DE _ _ (PySem.Expr.Call (PySem.Expr.Name "str" _) _ [] _) _ _); refine Dx.d_callTy (T := "str") rfl (Sx.Blt.str (by assumption)) (by decide +kernel) (by decide) (by decide) rfl rfl ?_)
  | ((with_reducible show Dx.DE _ _ (PySem.Expr.Call (PySem.Expr.Name "repr" _) _ [] _) _ _); refine Dx.d_callB (id := "repr") rfl (Sx.Blt.repr (by assumption)) (by decide +kernel) (by decide) (by decide) rfl rfl ?_)
  | ((with_reducible show Dx.DE _ _ (PySem.Expr.Call (PySem.Expr.Name "bool" _) _ [] _) _ _); refine Dx.d_callTy (T := "bool") rfl (Sx.Blt.bool (by assumption)) (by decide +kernel) (by decide) (by decide) rfl rfl ?_)
  | ((with_reducible show Dx.DE _ _ (PySem.Expr.Call (PySem.Expr.Name "min" _) _ [] _) _ _); refine Dx.d_callB (id := "min") rfl (Sx.Blt.min (by assumption)) (by decide +kernel) (by decide) (by decide) rfl rfl ?_)
  | ((with_reducible show Dx.DE _ _ (PySem.Expr.Call (PySem.Expr.Name "max" _) _ [] _) _ _); refine Dx.d_callB (id := "max") rfl (Sx.Blt.max (by assumption)) (by decide +kernel) (by decide) (by decide) rfl rfl ?_)
  | ((with_reducible show Dx.DE _ _ (PySem.Expr.Call (PySem.Expr.Name "sum" _) _ [] _) _ _); refine Dx.d_callB (id := "sum") rfl (Sx.Blt.sum (by assumption)) (by decide +kernel) (by decide) (by decide) rfl rfl ?_))
local macro_rules | `(tactic| wtm_at "dx1") => `(tactic| first
  | ((with_reducible show Dx.DE _ _ _ _ _); wtm_at "dx.e")
  | ((with_reducible show Dx.DO _ _ (PySem.binaryOp _) _ _ _ _); wtm_at "dx.vb")
  | ((with_reducible show Dx.DO _ _ (PySem.compareOp _) _ _ _ _); wtm_at "dx.vc")
  | ((with_reducible show Dx.DC _ _ _ _ _ _); wtm_at "dx.vf")
  | ((with_reducible show Dx.DA _ _ _ _ _); wtm_at "dx.a")
  | ((with_reducible show Dx.DSs _ _ _ _ _); wtm_at "dx.s")
  | ((with_reducible show Dx.DS _ _ _ _ _); wtm_at "dx.s")
  | ((with_reducible show Dx.DT _ _ _ _ _); wtm_at "dx.t")
  | ((with_reducible show Dx.DW _ _ _ _ _); wtm_at "dx.t")
  | ((with_reducible show Dx.DG _ _ _ _ _ _); wtm_at "dx.g")
  | ((with_reducible show Dx.DGs _ _ _ _ _ _); wtm_at "dx.g")
  | ((with_reducible show Dx.DIx _ _ _ _ _ _); wtm_at "dx.vr")
  | ((with_reducible show Dx.DTru _ _ _ _ _); wtm_at "dx.vr")
  | ((with_reducible show Dx.DU _ _ _ _ _ _); wtm_at "dx.vr")
  | ((with_reducible show Dx.DSl _ _ _ _ _ _ _); wtm_at "dx.vr")
  | wtm_at "dx.x")
local macro_rules | `(tactic| wtm_at "dx") => `(tactic| (repeat wtm_at "dx1"))
local macro_rules | `(tactic| wtm_at "for") => `(tactic| refine Dx.ds_for (fun _ => rfl) PySem.PassesOwn.never rfl ?_)
local macro_rules | `(tactic| wtm_at "di.R1") => `(tactic| refine Dx.di_R1 (by assumption) rfl rfl ?_)
local macro_rules | `(tactic| wtm_at "di.R2") => `(tactic| refine Dx.di_R2 (by assumption) rfl rfl rfl ?_)
local macro_rules | `(tactic| wtm_at "di.L") => `(tactic| refine Dx.di_L ?_)
local macro_rules | `(tactic| wtm_at "di.T") => `(tactic| refine Dx.di_T ?_)
local macro_rules | `(tactic| wtm_at "di.ET") => `(tactic| refine Dx.di_ET (by assumption) rfl rfl ?_)
local macro_rules | `(tactic| wtm_at "lc") => `(tactic| first | refine Dx.d_lc1 (n := 0) rfl rfl (by wtm_at "dx.nd") (by rfl) (by decide) (fun _ => rfl) ?_ | refine Dx.d_lc1 (n := 1) rfl rfl (by wtm_at "dx.nd") (by rfl) (by decide) (fun _ => rfl) ?_ | refine Dx.d_lc1 (n := 2) rfl rfl (by wtm_at "dx.nd") (by rfl) (by decide) (fun _ => rfl) ?_ | refine Dx.d_lc1 (n := 3) rfl rfl (by wtm_at "dx.nd") (by rfl) (by decide) (fun _ => rfl) ?_ | refine Dx.d_lc1 (n := 4) rfl rfl (by wtm_at "dx.nd") (by rfl) (by decide) (fun _ => rfl) ?_ | refine Dx.d_lc1 (n := 5) rfl rfl (by wtm_at "dx.nd") (by rfl) (by decide) (fun _ => rfl) ?_ | refine Dx.d_lc1 (n := 6) rfl rfl (by wtm_at "dx.nd") (by rfl) (by decide) (fun _ => rfl) ?_ | refine Dx.d_lc1 (n := 7) rfl rfl (by wtm_at "dx.nd") (by rfl) (by decide) (fun _ => rfl) ?_ | refine Dx.d_lc1 (n := 8) rfl rfl (by wtm_at "dx.nd") (by rfl) (by decide) (fun _ => rfl) ?_ | refine Dx.d_lc1 (n := 9) rfl rfl (by wtm_at "dx.nd") (by rfl) (by decide) (fun _ => rfl) ?_ | refine Dx.d_lc1 (n := 10) rfl rfl (by wtm_at "dx.nd") (by rfl) (by decide) (fun _ => rfl) ?_ | refine Dx.d_lc1 (n := 11) rfl rfl (by wtm_at "dx.nd") (by rfl) (by decide) (fun _ => rfl) ?_ | refine Dx.d_lc1 (n := 12) rfl rfl (by wtm_at "dx.nd") (by rfl) (by decide) (fun _ => rfl) ?_ | refine Dx.d_lc1 (n := 13) rfl rfl (by wtm_at "dx.nd") (by rfl) (by decide) (fun _ => rfl) ?_ | refine Dx.d_lc1 (n := 14) rfl rfl (by wtm_at "dx.nd") (by rfl) (by decide) (fun _ => rfl) ?_ | refine Dx.d_lc1 (n := 15) rfl rfl (by wtm_at "dx.nd") (by rfl) (by decide) (fun _ => rfl) ?_ | refine Dx.d_lc1 (n := 16) rfl rfl (by wtm_at "dx.nd") (by rfl) (by decide) (fun _ => rfl) ?_ | refine Dx.d_lc1 (n := 17) rfl rfl (by wtm_at "dx.nd") (by rfl) (by decide) (fun _ => rfl) ?_ | refine Dx.d_lc1 (n := 18) rfl rfl (by wtm_at "dx.nd") (by rfl) (by decide) (fun _ => rfl) ?_ | refine Dx.d_lc1 (n := 19) rfl rfl (by wtm_at "dx.nd") (by rfl) (by decide) (fun _ => rfl) ?_ | refine Dx.d_lc1 (n := 20) rfl rfl (by wtm_at "dx.nd") (by rfl) (by decide) (fun _ => rfl) ?_ | refine Dx.d_lc1 (n := 21) rfl rfl (by wtm_at "dx.nd") (by rfl) (by decide) (fun _ => rfl) ?_ | refine Dx.d_lc1 (n := 22) rfl rfl (by wtm_at "dx.nd") (by rfl) (by decide) (fun _ => rfl) ?_ | refine Dx.d_lc1 (n := 23) rfl rfl (by wtm_at "dx.nd") (by rfl) (by decide) (fun _ => rfl) ?_)
local macro_rules | `(tactic| wtm_at "call") => `(tactic| refine ⟨_, _, (by wtm_at "dx.bnd"), ?_⟩)
local macro_rules | `(tactic| wtm_at "turn0") => `(tactic| refine Dx.turn0 (ρ' := ?_) (by wtm_at "dx.nd") rfl (fun _ _ _ _ _ => (by wtm_at "dx.loc")) (fun _ _ _ _ _ => (by wtm_at "dx.loc")) (by wtm_at "dx.rho") (L2.iteT fun s0 H0 C0 cl0 fp0 => ?_))
local macro_rules | `(tactic| wtm_at "turn1") => `(tactic| refine Dx.turn1 (ρ' := ?_) (by wtm_at "dx.nd") rfl (fun _ _ _ _ _ => (by wtm_at "dx.loc")) (fun _ _ _ _ _ => (by wtm_at "dx.loc")) (by wtm_at "dx.rho") (fun s0 H0 C0 cl0 fp0 => ?_))
local macro_rules | `(tactic| wtm_at "nv") => `(tactic| (intro _ _ _ _ _; wtm_at "dx.loc"))
local macro_rules | `(tactic| wtm_at "hours") => `(tactic| (refine Dx.d_prop (cn := "Hours") (by assumption) (Pk.Env5.pH (by assumption)) (Pk.Txt.cl (by assumption)) (by wtm_at "room") rfl ?_))
local macro_rules | `(tactic| wtm_at "hx.b") => `(tactic| first
  | ((with_reducible show Dx.DO _ _ (PySem.binaryOp .Add) (Pk.hoursD _ _) (Pk.hoursD _ _) _ _); refine Pk.h_add (by assumption) (by wtm_at "room") (by assumption) (by assumption) (fun _ => ?_))
  | ((with_reducible show Dx.DO _ _ (PySem.binaryOp .Sub) (Pk.hoursD _ _) (Pk.hoursD _ _) _ _); refine Pk.h_sub (by assumption) (by wtm_at "room") (by assumption) (by assumption) (fun _ => ?_))
  | ((with_reducible show Dx.DO _ _ (PySem.binaryOp .BitOr) (Pk.hoursD _ _) (Pk.hoursD _ _) _ _); refine Pk.h_or (by assumption) (by wtm_at "room") (by assumption) (by assumption) (fun _ => ?_))
  | ((with_reducible show Dx.DO _ _ (PySem.binaryOp .BitAnd) (Pk.hoursD _ _) (Pk.hoursD _ _) _ _); refine Pk.h_and (by assumption) (by wtm_at "room") (by assumption) (by assumption) (fun _ => ?_))
  | ((with_reducible show Dx.DO _ _ (PySem.binaryOp .Mult) (Pk.hoursD _ _) (Dx.D.int _) _ _); refine Pk.h_mul (by assumption) (by wtm_at "room") (by assumption) (fun _ => ?_))
  | ((with_reducible show Dx.DU _ _ (PySem.unaryOp .USub) (Pk.hoursD _ _) _ _); refine Pk.h_neg (by assumption) (by wtm_at "room") (by assumption) (fun _ => ?_))
  | ((with_reducible show Dx.DU _ _ (PySem.unaryOp .Invert) (Pk.hoursD _ _) _ _); refine Pk.h_inv (by assumption) (by wtm_at "room") (by assumption) (fun _ => ?_)))
local macro_rules | `(tactic| wtm_at "hx.e") => `(tactic| first
  | ((with_reducible show Dx.DE _ _ (PySem.Expr.Attribute _ "hours" _) _ _); refine Pk.h_hours (by assumption) (by wtm_at "room") rfl ?_)
  | ((with_reducible show Dx.DE _ _ (PySem.Expr.Attribute _ "clock" _) _ _); refine Pk.h_clock (by assumption) (by wtm_at "room") rfl ?_)
  | ((with_reducible show Dx.DE _ _ (PySem.Expr.Call (PySem.Expr.Attribute _ "moved" _) [_] [] _) _ _); refine Pk.h_moved (by assumption) (by wtm_at "room") rfl rfl rfl ?_)
  | ((with_reducible show Dx.DE _ _ (PySem.Expr.Call (PySem.Expr.Attribute _ "moved" _) [] [_] _) _ _); refine Pk.h_movedK (by assumption) (by wtm_at "room") rfl rfl rfl rfl ?_)
  | ((with_reducible show Dx.DE _ _ (PySem.Expr.Call (PySem.Expr.Name "Hours" _) (_ :: _) [] _) _ _); refine Pk.h_make (by assumption) (by wtm_at "room") rfl rfl rfl ?_))
local macro_rules | `(tactic| wtm_at "hx.x") => `(tactic| first
  | ((with_reducible show Pk.Valid _ _ → _); intro _)
  | ((with_reducible show ∃ n ra, _ = Pk.hoursD n ra ∧ _); refine ⟨_, _, rfl, (by assumption), ?_⟩)
  | ((with_reducible show ∃ n ra, Dx.agV _ = some [_, Dx.D.tup (Pk.nats ra)] ∧ _); refine ⟨_, _, rfl, (by assumption), ?_⟩))
local macro_rules | `(tactic| wtm_at "hx") => `(tactic| (repeat first | wtm_at "dx1" | wtm_at "hx.b" | wtm_at "hx.e" | wtm_at "hx.x"))
namespace Pk
open PySem L2 Sx Mx Dx
section
variable {P : Program} {w : World} {K : PySem.W.Frag} {mg : Str → Option Value} {base : Heap} {C : Addr} {cl : Str → Option Addr}
def spPurse : DSp := fun ds Q => ∃ (ns : List Int) (i : Int), ds = [.scr (ns.map D.int), .int i] ∧ ns.length ≤ 63 ∧ 0 ≤ i ∧ i < 100 ∧ ∀ ps, Purse ps → Q (.own ps) []
theorem scPurse : FnScope ["script", "spot", "cell", "seed", "one"] ["script", "spot"] (defScope (top 36)) := ⟨rfl, rfl, rfl, by decide +kernel, rfl, by decide +kernel, by decide +kernel⟩
theorem ok_purse {f : Addr} {fd : FuncData} (F : Fun K "_law_purse" "_law_purse" (top 36) f fd) (B : Blt mg) : FnOk P w K mg base CX0 1 f fd ["script", "spot"] (toSp K w cl spPurse) := by
  refine dfn F scPurse (fun ds Q h => ?_) (fun cdv A outer s H E ds O ba Q hr h => ?_)
  · obtain ⟨ns, i, rfl, _⟩ := h
    rfl
  · obtain ⟨ns, i, rfl, hn, h0, h1, k⟩ := h
    have nd := scPurse.nd
    wtm_at "dx"
    refine brJ (fun d ρ => ∃ c : Int, d = .int c ∧ ρ = [some (.scr (ns.map D.int)), some (.int i), none, none, none]) (fun h => ?_) (fun h => ?_) (fun d ρ ⟨c, e1, e2⟩ => ?_)
    · have h' := of_decide_eq_true h
      rw [List.length_map] at h'
      obtain ⟨m, rfl⟩ := Int.eq_ofNat_of_zero_le h0
      have hm : m < ns.length := by omega
      wtm_at "dx"
      refine dix_scr (d := .int ns[m]) (atI_nat (by rw [List.getElem?_map]; simp [hm])) ?_
      exact ⟨_, rfl, rfl⟩
    · wtm_at "dx"
      rfl
    · subst e1
      subst e2
      wtm_at "dx"
      wtm_at "for"
      wtm_at "di.L"
      wtm_at "dx"
      have hcut : ∃ ms : List Int, cutD (ns.map D.int) none (some 5) = ms.map D.int ∧ ms.length ≤ 63 := by
        refine ⟨(ns.drop _).take _, by unfold cutD; rw [List.map_take, List.map_drop], ?_⟩
        rw [List.length_take, List.length_drop]
        omega
      obtain ⟨ms, hms, hml⟩ := hcut
      rw [hms]
      refine do_catL (Sx.size5 (by rw [List.length_map]; simp; omega)) ⟨_, rfl, fun hs => dfor_inv (fun j ρ => ∃ (sd : Int) (v : Option D), ρ = [some (.scr (ns.map D.int)), some (.int i), some (.int c), some (.int sd), v]) ⟨_, _, rfl⟩ (fun j d ρ hd ⟨sd, v, e⟩ => ?_) (fun ρ ⟨sd, v, e⟩ => ?_)⟩
      · subst e
        have hy : ∃ y : Int, d = .int y := by
          rcases List.mem_append.mp (List.mem_of_getElem? hd) with h | h
          · obtain ⟨y, _, e⟩ := List.mem_map.mp h
            exact ⟨y, e.symm⟩
          · rw [List.mem_singleton] at h
            exact ⟨c, h⟩
        obtain ⟨y, rfl⟩ := hy
        wtm_at "dx"
        exact ⟨_, _, rfl⟩
      · subst e
        wtm_at "dx"
        refine brJ (fun d ρ => ∃ z : Int, d = .int z ∧ 0 ≤ z ∧ ρ = [some (.scr (ns.map D.int)), some (.int i), some (.int c), some (.int sd), v]) (fun h => ?_) (fun h => ?_) (fun d ρ ⟨z, e1, hz, e2⟩ => ?_)
        · wtm_at "dx"
          exact ⟨by split <;> omega, rfl⟩
        · wtm_at "dx"
          exact ⟨by decide, rfl⟩
        · subst e1
          subst e2
          wtm_at "dx"
          exact k _ ⟨z, sd, rfl, hz⟩
/-! ### the law's own turn -/
abbrev Me (P : Program) (w : World) (K : PySem.W.Frag) (mg : Str → Option Value) (base : Heap) (C : Addr) (cl : Str → Option Addr) (m : Str) (ps : List Str) (sp : DSp) := MethOk P w K mg base C m 8 ps (toSp K w cl sp)
structure Env5 (P : Program) (w : World) (K : PySem.W.Frag) (mg : Str → Option Value) (base : Heap) (C : Addr) (cl : Str → Option Addr) : Prop where
  T : Txt K mg C
  hc : cl "Hours" = some C
  dr : Callable P w K mg base "_law_draw" 1 ["purse", "many"] (toSp K w cl spDraw)
  so : Callable P w K mg base "_law_some" 2 ["purse", "many"] (toSp K w cl spSome)
  su : Callable P w K mg base "_law_sums" 1 ["many", "row", "mates"] (toSp K w cl spLSums)
  mkr : MkH P w K mg base C
  pN : PropOk P w K mg base C "clock" 1 ["self"] (toSp K w cl dGetN)
  pH : PropOk P w K mg base C "hours" 1 ["self"] (toSp K w cl dGetH)
  add : Me P w K mg base C cl (PySem.dunder Operator.Add.info.2) ["self", "other"] (dBin sumsN)
  sub : Me P w K mg base C cl (PySem.dunder Operator.Sub.info.2) ["self", "other"] (dBin subN)
  or : Me P w K mg base C cl (PySem.dunder Operator.BitOr.info.2) ["self", "other"] (dBin fun _ a b => a ||| b)
  and : Me P w K mg base C cl (PySem.dunder Operator.BitAnd.info.2) ["self", "other"] (dBin fun _ a b => a &&& b)
  inv : Me P w K mg base C cl "__invert__" ["self"] (dUn fun n a => a ^^^ (1 <<< n - 1))
  neg : Me P w K mg base C cl "__neg__" ["self"] (dUn fun n a => scaleN n a (-1))
  mul : Me P w K mg base C cl (PySem.dunder Operator.Mult.info.2) ["self", "other"] (dNum scaleN)
  mov : Me P w K mg base C cl "moved" ["self", "by"] (dNum movedN)
  movK : MethKOk P w K mg base C "moved" "by" 8 ["self", "by"] (toSp K w cl (dNum movedN))
  eq : Me P w K mg base C cl "__eq__" ["self", "other"] dEq
section
variable {X : Cx} {F : Fx} {Q : DQ} {ρ : En} {n : Nat} {ra rb : List Nat} {e o : Expr} {es : List Expr} {pos apos fp : Pos} [f : Fit X F]
theorem h_add (V5 : Env5 X.prog X.w X.K X.mg X.base C F.cl) (hr : Room 8 X.A) (va : Valid n ra) (vb : Valid n rb) (q : Valid n (bitsL (sumsN n (maskN ra) (maskN rb))) → Q (hoursD n (bitsL (sumsN n (maskN ra) (maskN rb)))) ρ) : DO X F (binaryOp .Add) (hoursD n ra) (hoursD n rb) ρ Q :=
  do_own V5.hc V5.T.ops V5.add hr ⟨n, ra, rb, rfl, va, vb, q (valid_bits va.pos va.le (sumsN_lt _ _ _))⟩
theorem h_sub (V5 : Env5 X.prog X.w X.K X.mg X.base C F.cl) (hr : Room 8 X.A) (va : Valid n ra) (vb : Valid n rb) (q : Valid n (bitsL (subN n (maskN ra) (maskN rb))) → Q (hoursD n (bitsL (subN n (maskN ra) (maskN rb)))) ρ) : DO X F (binaryOp .Sub) (hoursD n ra) (hoursD n rb) ρ Q :=
  do_own V5.hc V5.T.ops V5.sub hr ⟨n, ra, rb, rfl, va, vb, q (valid_bits va.pos va.le (sumsN_lt _ _ _))⟩
theorem or_lt2 {a b : Nat} (ha : a < 2 ^ n) (hb : b < 2 ^ n) : a ||| b < 2 ^ n := Nat.or_lt_two_pow ha hb
theorem h_or (V5 : Env5 X.prog X.w X.K X.mg X.base C F.cl) (hr : Room 8 X.A) (va : Valid n ra) (vb : Valid n rb) (q : Valid n (bitsL (maskN ra ||| maskN rb)) → Q (hoursD n (bitsL (maskN ra ||| maskN rb))) ρ) : DO X F (binaryOp .BitOr) (hoursD n ra) (hoursD n rb) ρ Q :=
  do_own V5.hc V5.T.ops V5.or hr ⟨n, ra, rb, rfl, va, vb, q (valid_bits va.pos va.le (Nat.or_lt_two_pow (maskN_lt va.lt) (maskN_lt vb.lt)))⟩
theorem h_and (V5 : Env5 X.prog X.w X.K X.mg X.base C F.cl) (hr : Room 8 X.A) (va : Valid n ra) (vb : Valid n rb) (q : Valid n (bitsL (maskN ra &&& maskN rb)) → Q (hoursD n (bitsL (maskN ra &&& maskN rb))) ρ) : DO X F (binaryOp .BitAnd) (hoursD n ra) (hoursD n rb) ρ Q :=
  do_own V5.hc V5.T.ops V5.and hr ⟨n, ra, rb, rfl, va, vb, q (valid_bits va.pos va.le (Nat.lt_of_le_of_lt Nat.and_le_left (maskN_lt va.lt)))⟩
theorem h_inv (V5 : Env5 X.prog X.w X.K X.mg X.base C F.cl) (hr : Room 8 X.A) (va : Valid n ra) (q : Valid n (bitsL (maskN ra ^^^ (1 <<< n - 1))) → Q (hoursD n (bitsL (maskN ra ^^^ (1 <<< n - 1)))) ρ) : DU X F (unaryOp .Invert) (hoursD n ra) ρ Q :=
  du_ownInv V5.hc V5.inv hr ⟨n, ra, rfl, va, q (valid_bits va.pos va.le (xor_lt (maskN_lt va.lt)))⟩
theorem h_neg (V5 : Env5 X.prog X.w X.K X.mg X.base C F.cl) (hr : Room 8 X.A) (va : Valid n ra) (q : Valid n (bitsL (scaleN n (maskN ra) (-1))) → Q (hoursD n (bitsL (scaleN n (maskN ra) (-1)))) ρ) : DU X F (unaryOp .USub) (hoursD n ra) ρ Q :=
  du_ownNeg V5.hc V5.neg hr ⟨n, ra, rfl, va, q (valid_bits va.pos va.le (scaleN_lt va.pos))⟩
theorem h_mul {i : Int} (V5 : Env5 X.prog X.w X.K X.mg X.base C F.cl) (hr : Room 8 X.A) (va : Valid n ra) (q : Valid n (bitsL (scaleN n (maskN ra) i)) → Q (hoursD n (bitsL (scaleN n (maskN ra) i))) ρ) : DO X F (binaryOp .Mult) (hoursD n ra) (.int i) ρ Q := by
  obtain ⟨fo, im⟩ := V5.T.im
  obtain ⟨ro, ir⟩ := V5.T.ir
  exact do_ownI V5.hc V5.T.ops V5.mul hr V5.T.rm im ir V5.T.ci ⟨n, ra, i, rfl, va, q (valid_bits va.pos va.le (scaleN_lt va.pos))⟩
theorem h_ne {m : Nat} (V5 : Env5 X.prog X.w X.K X.mg X.base C F.cl) (hr : Room 9 X.A) (va : Valid n ra) (vb : Valid m rb) (q : Q (.bl (!decide (n = m ∧ ra = rb))) ρ) : DO X F (compareOp .NotEq) (hoursD n ra) (hoursD m rb) ρ Q :=
  dc_ownNe V5.hc V5.eq hr V5.T.ne V5.T.ob ⟨n, m, ra, rb, rfl, va, vb, _, rfl, q⟩
theorem h_neS (V5 : Env5 X.prog X.w X.K X.mg X.base C F.cl) (hr : Room 9 X.A) (va : Valid n ra) (vb : Valid n rb) (he : ra = rb) (q : Q (.bl false) ρ) : DO X F (compareOp .NotEq) (hoursD n ra) (hoursD n rb) ρ Q := by
  refine h_ne V5 hr va vb ?_
  rw [decide_eq_true ⟨rfl, he⟩]
  exact q
theorem h_eq {m : Nat} (V5 : Env5 X.prog X.w X.K X.mg X.base C F.cl) (hr : Room 8 X.A) (va : Valid n ra) (vb : Valid m rb) (q : Q (.bl (decide (n = m ∧ ra = rb))) ρ) : DO X F (compareOp .Eq) (hoursD n ra) (hoursD m rb) ρ Q :=
  dc_ownEq V5.hc V5.T.ops V5.eq hr ⟨n, m, ra, rb, rfl, va, vb, q⟩
theorem h_hours (V5 : Env5 X.prog X.w X.K X.mg X.base C F.cl) (hr : Room 2 X.A) (hab : attributeBase e "hours" X.env (eval e X.env) = eval e X.env) (q : DE X F e ρ fun d ρ1 => ∃ n ra, d = hoursD n ra ∧ Valid n ra ∧ Q (.tup (nats ra)) ρ1) : DE X F (.Attribute e "hours" pos) ρ Q :=
  d_prop V5.hc V5.pH V5.T.cl hr hab (q.mono fun d ρ1 ⟨n, ra, hd, hv, q⟩ => ⟨_, hd, n, ra, rfl, hv, q⟩)
theorem h_clock (V5 : Env5 X.prog X.w X.K X.mg X.base C F.cl) (hr : Room 2 X.A) (hab : attributeBase e "clock" X.env (eval e X.env) = eval e X.env) (q : DE X F e ρ fun d ρ1 => ∃ n ra, d = hoursD n ra ∧ Valid n ra ∧ Q (.int n) ρ1) : DE X F (.Attribute e "clock" pos) ρ Q :=
  d_prop V5.hc V5.pN V5.T.cl hr hab (q.mono fun d ρ1 ⟨n, ra, hd, hv, q⟩ => ⟨_, hd, n, ra, rfl, hv, q⟩)
theorem h_moved {pl : Sem Bool} (V5 : Env5 X.prog X.w X.K X.mg X.base C F.cl) (hr : Room 8 X.A)
    (hst : starEach [e] X.env = (false, eval e X.env) :: starEach [] X.env) (hpl : (backTo pos (starEach [] X.env)).any (·.1) = false)
    (ht : eval (.Call (.Attribute o "moved" apos) [e] [] pos) X.env = (do let z ← eval o X.env; standAt apos.atName; let (y, first) ← holding [z] (getMethod z "moved" pl); callWith pos y first (backTo pos (starEach [e] X.env)) (backToKw pos (keywordEach [] X.env))))
    (q : DE X F o ρ fun d ρ1 => ∃ n ra, d = hoursD n ra ∧ Valid n ra ∧ DE X F e ρ1 fun y ρ2 => ∃ i, y = .int i ∧ (Valid n (bitsL (movedN n (maskN ra) i)) → Q (hoursD n (bitsL (movedN n (maskN ra) i))) ρ2)) : DE X F (.Call (.Attribute o "moved" apos) [e] [] pos) ρ Q :=
  d_meth V5.hc V5.mov V5.T.cl hr hst hpl ht (q.mono fun d ρ1 ⟨n, ra, hd, hv, q⟩ => ⟨_, hd, rfl, da_cons hst (q.mono fun y ρ2 ⟨i, hy, q⟩ => da_nil ⟨_, rfl, n, ra, i, by rw [hy], hv, q (valid_bits hv.pos hv.le (wrapN_lt _ _))⟩)⟩)
theorem h_movedK {pl : Sem Bool} {kpos : Pos} (V5 : Env5 X.prog X.w X.K X.mg X.base C F.cl) (hr : Room 8 X.A)
    (ht : eval (.Call (.Attribute o "moved" apos) [] [⟨some "by", e, kpos⟩] pos) X.env = (do let z ← eval o X.env; standAt apos.atName; let (y, first) ← holding [z] (getMethod z "moved" pl); callWith pos y first (backTo pos (starEach [] X.env)) (backToKw pos (keywordEach [⟨some "by", e, kpos⟩] X.env))))
    (hall : ((backToKw pos (keywordEach [⟨some "by", e, kpos⟩] X.env)).all fun x => x.1.isSome) = true) (hks : (backToKw pos (keywordEach [⟨some "by", e, kpos⟩] X.env)).filterMap (fun x => x.1) = [("by" : Str)]) (hpl : (((backTo pos (starEach [] X.env)).any fun x => x.1) || (backToKw pos (keywordEach [⟨some "by", e, kpos⟩] X.env)).any fun x => x.1.isNone) = false)
    (q : DE X F o ρ fun d ρ1 => ∃ n ra, d = hoursD n ra ∧ Valid n ra ∧ DE X F e ρ1 fun y ρ2 => ∃ i, y = .int i ∧ (Valid n (bitsL (movedN n (maskN ra) i)) → Q (hoursD n (bitsL (movedN n (maskN ra) i))) ρ2)) : DE X F (.Call (.Attribute o "moved" apos) [] [⟨some "by", e, kpos⟩] pos) ρ Q :=
  d_methK V5.hc V5.T.cl V5.movK hr ht hall hks hpl (q.mono fun d ρ1 ⟨n, ra, hd, hv, q⟩ => ⟨_, hd, rfl, q.mono fun y ρ2 ⟨i, hy, q⟩ => ⟨n, ra, i, by rw [hy], hv, q (valid_bits hv.pos hv.le (wrapN_lt _ _))⟩⟩)
theorem h_make (V5 : Env5 X.prog X.w X.K X.mg X.base C F.cl) (hr : Room 6 X.A) (hg : Gl X "Hours") (he : starEach (e :: es) X.env = (false, eval e X.env) :: starEach es X.env) (hpl : (backTo pos (starEach es X.env)).any (·.1) = false)
    (q : DA X F (e :: es) ρ fun as ρ1 => ∃ n ra, agV as = some [.int ((n : Nat) : Int), .tup (nats ra)] ∧ Valid n ra ∧ Q (hoursD n ra) ρ1) : DE X F (.Call (.Name "Hours" fp) (e :: es) [] pos) ρ Q :=
  d_make (d_mk V5.hc V5.mkr) hr hg he hpl fun σ H ok => ra_mono (q σ H ok) fun vs H1 ⟨as, ρ1, ok1, ps, k1, n, ra, e1, hv, q⟩ => ⟨as, ρ1, ok1, ps, k1, _, e1, n, ra, rfl, hv, q⟩
theorem in_nats {i : Int} (q : Q (.bl (decide (i ∈ rb.map fun z : Nat => (z : Int)))) ρ) : DO X F (compareOp .In) (.int i) (.tup (nats rb)) ρ Q := by rw [nats_int]; exact dc_inT q
theorem notIn_nats {i : Int} (q : Q (.bl (!decide (i ∈ rb.map fun z : Nat => (z : Int)))) ρ) : DO X F (compareOp .NotIn) (.int i) (.tup (nats rb)) ρ Q := by rw [nats_int]; exact dc_notInT q
theorem rows_dat : ∀ rs : List (List Nat), datL (rs.map fun r => D.tup (nats r)) = some ((rs.map fun r => r.map fun z : Nat => (z : Int)).map fun r => PyData.tuple (r.map PyData.int))
  | [] => rfl
  | r :: rs => by
    have ih := rows_dat rs
    have h1 : (D.tup (nats r)).dat = some (.tuple ((r.map fun z : Nat => (z : Int)).map PyData.int)) := by rw [nats_int]; simp only [D.dat, datL_ints]; rfl
    show (match (D.tup (nats r)).dat, datL (rs.map fun r => D.tup (nats r)) with | some x, some xs => some (x :: xs) | _, _ => none) = _
    rw [h1, ih]
    rfl
theorem ne_rows {k : Nat} {d : D} (rs : List (List Nat)) (hr : Room k X.A) (he : d = .lst (rs.map fun r => .tup (nats r))) (q : Q (.bl false) ρ) : DO X F (compareOp .NotEq) d (.lst (rs.map fun r => .tup (nats r))) ρ Q :=
  dc_neSame hr he (p := .list ((rs.map fun r => r.map fun z : Nat => (z : Int)).map fun r => PyData.tuple (r.map PyData.int))) (by rw [he]; simp only [D.dat, rows_dat]; rfl) (shaped_rowsL _) q
theorem eq_row {k : Nat} {d : D} (r : List Nat) (hr : Room k X.A) (he : d = .tup (nats r)) (q : Q (.bl true) ρ) : DO X F (compareOp .Eq) d (.tup (nats r)) ρ Q :=
  dc_eqSame hr he (p := .tuple ((r.map fun z : Nat => (z : Int)).map PyData.int)) (by rw [he, nats_int]; simp only [D.dat, datL_ints]; rfl) (shaped_tup _) q
end
end
end Pk

end
section -- Lf
set_option maxRecDepth 100000
set_option maxHeartbeats 16000000
local macro_rules | `(tactic| wtm_at "dx.vis") => `(tactic| first | exact Or.inl rfl | exact Or.inr (Or.inl rfl) | exact Or.inr (Or.inr rfl))
local macro_rules | `(tactic| wtm_at "dx.loc") => `(tactic| first | exact Or.inl rfl | exact Or.inr rfl)
local macro_rules | `(tactic| wtm_at "dx.nd") => `(tactic| first | assumption | decide +kernel)
local macro_rules | `(tactic| wtm_at "room") => `(tactic| first | assumption | exact L2.Room.mono (by assumption) (by decide))
local macro_rules | `(tactic| wtm_at "size") => `(tactic| first
  | exact Nat.le_of_ble_eq_true rfl
  | exact Sx.size5 (by first | omega | (simp only [List.length_cons, List.length_nil, List.length_append, List.length_map, List.length_replicate]; omega))
  | exact Sx.size5l (by first | omega | (simp only [List.length_cons, List.length_nil, List.length_append, List.length_map, List.length_replicate]; omega)))
-- the slots written out
local macro_rules | `(tactic| wtm_at "dx.rho") => `(tactic| (simp (decide := true) only [L2.cxOf, L2.Cx.nox, Dx.startE, Dx.setE, Dx.putOut, Dx.D.put, Dx.D.fz, Dx.wipeE, List.map, List.map_cons, List.map_nil, List.length_cons, List.length_nil, List.replicate_succ, List.replicate_zero, List.cons_append, List.nil_append, List.append_nil, List.set_cons_succ, List.set_cons_zero, List.getElem?_cons_succ, List.getElem?_cons_zero, Nat.reduceAdd, Nat.reduceSub, Int.reduceToNat, if_true, if_false, ite_true, ite_false, reduceIte] <;> exact rfl))
local macro_rules | `(tactic| wtm_at "dx.n") => `(tactic| first
  | ((with_reducible show Dx.DSs _ _ _ _ (_)); first | ((with_reducible show Dx.DSs _ _ _ _ (Dx.setE _ _ _ _)); refine Dx.dss_env (ρ' := ?_) (by wtm_at "dx.rho") ?_) | ((with_reducible show Dx.DSs _ _ _ _ (Dx.putOut _ _ _)); refine Dx.dss_env (ρ' := ?_) (by wtm_at "dx.rho") ?_) | ((with_reducible show Dx.DSs _ _ _ _ (Dx.startE _ _)); refine Dx.dss_env (ρ' := ?_) (by wtm_at "dx.rho") ?_) | ((with_reducible show Dx.DSs _ _ _ _ (List.set _ _ _)); refine Dx.dss_env (ρ' := ?_) (by wtm_at "dx.rho") ?_) | ((with_reducible show Dx.DSs _ _ _ _ (Dx.wipeE _ _)); refine Dx.dss_env (ρ' := ?_) (by wtm_at "dx.rho") ?_))
  | ((with_reducible show Dx.DE _ _ _ (_) _); first | ((with_reducible show Dx.DE _ _ _ (Dx.setE _ _ _ _) _); refine Dx.de_env (ρ' := ?_) (by wtm_at "dx.rho") ?_) | ((with_reducible show Dx.DE _ _ _ (Dx.putOut _ _ _) _); refine Dx.de_env (ρ' := ?_) (by wtm_at "dx.rho") ?_) | ((with_reducible show Dx.DE _ _ _ (Dx.startE _ _) _); refine Dx.de_env (ρ' := ?_) (by wtm_at "dx.rho") ?_) | ((with_reducible show Dx.DE _ _ _ (List.set _ _ _) _); refine Dx.de_env (ρ' := ?_) (by wtm_at "dx.rho") ?_) | ((with_reducible show Dx.DE _ _ _ (Dx.wipeE _ _) _); refine Dx.de_env (ρ' := ?_) (by wtm_at "dx.rho") ?_))
  | ((with_reducible show Dx.DT _ _ _ (_) _); first | ((with_reducible show Dx.DT _ _ _ (Dx.setE _ _ _ _) _); refine Dx.dt_env (ρ' := ?_) (by wtm_at "dx.rho") ?_) | ((with_reducible show Dx.DT _ _ _ (Dx.putOut _ _ _) _); refine Dx.dt_env (ρ' := ?_) (by wtm_at "dx.rho") ?_) | ((with_reducible show Dx.DT _ _ _ (Dx.startE _ _) _); refine Dx.dt_env (ρ' := ?_) (by wtm_at "dx.rho") ?_) | ((with_reducible show Dx.DT _ _ _ (List.set _ _ _) _); refine Dx.dt_env (ρ' := ?_) (by wtm_at "dx.rho") ?_) | ((with_reducible show Dx.DT _ _ _ (Dx.wipeE _ _) _); refine Dx.dt_env (ρ' := ?_) (by wtm_at "dx.rho") ?_))
  | ((with_reducible show Dx.DG _ _ _ _ (_) _); first | ((with_reducible show Dx.DG _ _ _ _ (Dx.setE _ _ _ _) _); refine Dx.dg_env (ρ' := ?_) (by wtm_at "dx.rho") ?_) | ((with_reducible show Dx.DG _ _ _ _ (Dx.putOut _ _ _) _); refine Dx.dg_env (ρ' := ?_) (by wtm_at "dx.rho") ?_) | ((with_reducible show Dx.DG _ _ _ _ (Dx.startE _ _) _); refine Dx.dg_env (ρ' := ?_) (by wtm_at "dx.rho") ?_) | ((with_reducible show Dx.DG _ _ _ _ (List.set _ _ _) _); refine Dx.dg_env (ρ' := ?_) (by wtm_at "dx.rho") ?_) | ((with_reducible show Dx.DG _ _ _ _ (Dx.wipeE _ _) _); refine Dx.dg_env (ρ' := ?_) (by wtm_at "dx.rho") ?_))
  | ((with_reducible show Dx.DGs _ _ _ _ (_) _); first | ((with_reducible show Dx.DGs _ _ _ _ (Dx.setE _ _ _ _) _); refine Dx.dgs_env (ρ' := ?_) (by wtm_at "dx.rho") ?_) | ((with_reducible show Dx.DGs _ _ _ _ (Dx.putOut _ _ _) _); refine Dx.dgs_env (ρ' := ?_) (by wtm_at "dx.rho") ?_) | ((with_reducible show Dx.DGs _ _ _ _ (Dx.startE _ _) _); refine Dx.dgs_env (ρ' := ?_) (by wtm_at "dx.rho") ?_) | ((with_reducible show Dx.DGs _ _ _ _ (List.set _ _ _) _); refine Dx.dgs_env (ρ' := ?_) (by wtm_at "dx.rho") ?_) | ((with_reducible show Dx.DGs _ _ _ _ (Dx.wipeE _ _) _); refine Dx.dgs_env (ρ' := ?_) (by wtm_at "dx.rho") ?_)))
-- expressions
local macro_rules | `(tactic| wtm_at "dx.e") => `(tactic| first
  | wtm_at "dx.n"
  | with_reducible refine Dx.d_int ?_
  | with_reducible refine Dx.d_bl ?_
  | with_reducible refine Dx.d_non ?_
  | with_reducible refine Dx.d_str ?_
  | ((with_reducible show Dx.DE _ _ (PySem.Expr.Name _ _) _ _); refine Dx.d_name rfl rfl (by wtm_at "dx.vis") (by decide) (by decide) ?_)
  | ((with_reducible show Dx.DE _ _ (PySem.Expr.Name _ _) _ _); refine Dx.d_nameO (by wtm_at "dx.nd") rfl (by wtm_at "dx.vis") (by decide) (by decide) ?_)
  | ((with_reducible show Dx.DE _ _ (PySem.Expr.Name "int" _) _ _); refine Dx.d_bltTy (T := "int") rfl (Sx.Blt.int (by assumption)) (by decide +kernel) (by decide) (by decide) ?_)
  | ((with_reducible show Dx.DE _ _ (PySem.Expr.Name "bool" _) _ _); refine Dx.d_bltTy (T := "bool") rfl (Sx.Blt.bool (by assumption)) (by decide +kernel) (by decide) (by decide) ?_)
  | ((with_reducible show Dx.DE _ _ (PySem.Expr.Name "tuple" _) _ _); refine Dx.d_bltTy (T := "tuple") rfl (Sx.Blt.tuple (by assumption)) (by decide +kernel) (by decide) (by decide) ?_)
  | ((with_reducible show Dx.DE _ _ (PySem.Expr.Name "str" _) _ _); refine Dx.d_bltTy (T := "str") rfl (Sx.Blt.str (by assumption)) (by decide +kernel) (by decide) (by decide) ?_)
  | ((with_reducible show Dx.DE _ _ (PySem.Expr.Name _ _) _ _); refine Dx.d_globI rfl (by assumption) (by decide) ?_)
  | with_reducible refine Dx.d_bin ?_
  | with_reducible refine Dx.d_not ?_
  | with_reducible refine Dx.d_un ?_
  | ((with_reducible refine Dx.d_cmp ?_ ?_); (next => first | rfl | exact L2.nomark _))
  | with_reducible refine Dx.d_one ?_
  | ((with_reducible show Dx.DE _ _ (PySem.Expr.Compare _ [_, _] [_, _] _) _ _); refine Dx.d_chain (by with_unfolding_all rfl) ?_)
  | with_reducible refine Dx.d_and ?_
  | with_reducible refine Dx.d_or ?_
  | with_reducible refine Dx.d_if ?_
  | with_reducible refine Dx.d_tup ?_
  | with_reducible refine Dx.d_lst ?_
  | with_reducible refine Dx.d_sl ?_
  | ((with_reducible show Dx.DE _ _ (PySem.Expr.Subscript (PySem.Expr.Name _ _) _ _) _ _); refine Dx.d_ixO (fun _ _ => rfl) rfl rfl (by wtm_at "dx.vis") (by decide) (by decide) (by wtm_at "dx.nd") ?_)
  | ((with_reducible refine Dx.d_ix ?_ ?_); (next => exact fun _ _ => rfl))
  | ((with_reducible show Dx.DE _ _ (PySem.Expr.Call (PySem.Expr.Name "len" _) [PySem.Expr.Name _ _] [] _) _ _); refine Dx.d_lenO (by assumption) rfl rfl rfl (by wtm_at "dx.vis") (by decide) (by decide) rfl ?_)
  | ((with_reducible show Dx.DE _ _ (PySem.Expr.Call (PySem.Expr.Attribute (PySem.Expr.Name _ _) "append" _) [_] [] _) _ _); refine Dx.d_append (by wtm_at "dx.nd") rfl rfl rfl rfl rfl rfl rfl (by wtm_at "dx.vis") (by decide) (by decide) ?_)
  | ((with_reducible show Dx.DE _ _ (PySem.Expr.Call (PySem.Expr.Attribute (PySem.Expr.Name _ _) "pop" _) [_] [] _) _ _); refine Dx.d_popAt (by wtm_at "dx.nd") rfl rfl rfl rfl rfl rfl rfl (by wtm_at "dx.vis") (by decide) (by decide) ?_)
  | wtm_at "dx.blt"
  | wtm_at "dx.f")
-- arguments: the purse is lent
local macro_rules | `(tactic| wtm_at "dx.a") => `(tactic| first
  | with_reducible refine Dx.da_nil ?_
  | ((with_reducible show Dx.DA _ _ (PySem.Expr.Name "purse" _ :: _) _ _); first | refine Dx.da_lend (i := 0) rfl ⟨_, rfl⟩ (by wtm_at "dx.vis") (by decide) (by decide) rfl ?_ | refine Dx.da_lend (i := 1) rfl ⟨_, rfl⟩ (by wtm_at "dx.vis") (by decide) (by decide) rfl ?_ | refine Dx.da_lend (i := 2) rfl ⟨_, rfl⟩ (by wtm_at "dx.vis") (by decide) (by decide) rfl ?_ | refine Dx.da_lend (i := 3) rfl ⟨_, rfl⟩ (by wtm_at "dx.vis") (by decide) (by decide) rfl ?_ | refine Dx.da_lend (i := 4) rfl ⟨_, rfl⟩ (by wtm_at "dx.vis") (by decide) (by decide) rfl ?_ | refine Dx.da_lend (i := 5) rfl ⟨_, rfl⟩ (by wtm_at "dx.vis") (by decide) (by decide) rfl ?_ | refine Dx.da_lend (i := 6) rfl ⟨_, rfl⟩ (by wtm_at "dx.vis") (by decide) (by decide) rfl ?_ | refine Dx.da_lend (i := 7) rfl ⟨_, rfl⟩ (by wtm_at "dx.vis") (by decide) (by decide) rfl ?_ | refine Dx.da_lend (i := 8) rfl ⟨_, rfl⟩ (by wtm_at "dx.vis") (by decide) (by decide) rfl ?_ | refine Dx.da_lend (i := 9) rfl ⟨_, rfl⟩ (by wtm_at "dx.vis") (by decide) (by decide) rfl ?_)
  | ((with_reducible refine Dx.da_cons ?_ ?_); (next => rfl)))
local macro_rules | `(tactic| wtm_at "dx.t") => `(tactic| first
  | wtm_at "dx.n"
  | ((with_reducible refine Dx.dt_cmp ?_ ?_); (next => first | rfl | exact L2.nomark _))
  | with_reducible refine Dx.dt_not ?_
  | with_reducible refine Dx.dw_and ?_
  | with_reducible refine Dx.dw_and1 ?_
  | with_reducible refine Dx.dw_or ?_
  | with_reducible refine Dx.dw_or1 ?_
  | (with_reducible refine Dx.dt_pw (e := .BoolOp _ _ _) ?_)
  | ((with_reducible refine Dx.dt_val ?_ ?_); (next => (intro _; rfl))))
local macro_rules | `(tactic| wtm_at "dx.s") => `(tactic| first
  | wtm_at "dx.n"
  | with_reducible refine Dx.ds_nil ?_
  | with_reducible refine Dx.ds_cons ?_
  | with_reducible refine Dx.ds_pass ?_
  | with_reducible refine Dx.ds_break ?_
  | with_reducible refine Dx.ds_continue ?_
  | with_reducible refine Dx.ds_ret ?_
  | with_reducible refine Dx.ds_retN ?_
  | with_reducible refine Dx.ds_if ?_
  | ((with_reducible refine Dx.ds_expr ?_ ?_); (next => rfl))
  | ((with_reducible show Dx.DS _ _ (PySem.Stmt.Assign [PySem.Expr.Name "due" _] (PySem.Expr.List _ _) _) _ _); refine Dx.ds_own (by wtm_at "dx.nd") rfl (by wtm_at "dx.loc") (.inl rfl) rfl ?_)
  | ((with_reducible show Dx.DS _ _ (PySem.Stmt.Assign [PySem.Expr.Name "told" _] (PySem.Expr.List _ _) _) _ _); refine Dx.ds_own (by wtm_at "dx.nd") rfl (by wtm_at "dx.loc") (.inl rfl) rfl ?_)
  | ((with_reducible show Dx.DS _ _ (PySem.Stmt.Assign [PySem.Expr.Name "made" _] (PySem.Expr.List _ _) _) _ _); refine Dx.ds_own (by wtm_at "dx.nd") rfl (by wtm_at "dx.loc") (.inl rfl) rfl ?_)
  | ((with_reducible show Dx.DS _ _ (PySem.Stmt.Assign [PySem.Expr.Name "shots" _] (PySem.Expr.List _ _) _) _ _); refine Dx.ds_own (by wtm_at "dx.nd") rfl (by wtm_at "dx.loc") (.inl rfl) rfl ?_)
  | ((with_reducible refine Dx.ds_set ?_ ?_ ?_ ?_ ?_ ?_); (next => wtm_at "dx.nd"); (next => rfl); (next => wtm_at "dx.loc"); (next => exact .inl rfl); (next => rfl))
  | ((with_reducible show Dx.DS _ _ (PySem.Stmt.Assign [PySem.Expr.Tuple [_, _] _ _] (PySem.Expr.Tuple [_, _] _ _) _) _ _); refine Dx.ds_par rfl (by wtm_at "dx.nd") rfl rfl (by decide) rfl rfl rfl rfl ?_)
  | ((with_reducible show Dx.DS _ _ (PySem.Stmt.Assign [PySem.Expr.Tuple [_, _, _] _ _] (PySem.Expr.Tuple [_, _, _] _ _) _) _ _); refine Dx.ds_par3 rfl (by wtm_at "dx.nd") rfl rfl rfl (by decide) (by decide) (by decide) rfl rfl rfl rfl rfl ?_)
  | ((with_reducible refine Dx.ds_asg ?_ ?_ ?_ ?_); (next => rfl); (next => rfl); (next => rfl))
  | ((with_reducible show Dx.DSs _ _ _ _ _); refine Dx.ds_cons ?_))
local macro_rules | `(tactic| wtm_at "dx.g") => `(tactic| first
  | wtm_at "dx.n"
  | ((with_reducible refine Dx.dg_name ?_ ?_ ?_ ?_ ?_); (next => wtm_at "dx.nd"); (next => rfl); (next => wtm_at "dx.loc"); (next => exact .inl rfl))
  | ((with_reducible show Dx.DG _ _ (PySem.Expr.Tuple _ _ _) _ _ _); refine Dx.dg_tup rfl rfl rfl rfl ?_)
  | with_reducible refine Dx.dgs_nil ?_
  | ((with_reducible refine Dx.dgs_cons ?_ ?_); (next => rfl))
  | ((with_reducible show Dx.DG _ _ (PySem.Expr.Subscript (PySem.Expr.Name _ _) _ _) _ _ _); refine Dx.dg_sub (by wtm_at "dx.nd") (fun _ => rfl) rfl (by wtm_at "dx.vis") (by decide) (by decide) ?_))
-- values
local macro_rules | `(tactic| wtm_at "dx.vb") => `(tactic| first
  | with_reducible refine Dx.do_add ?_
  | with_reducible refine Dx.do_sub ?_
  | with_reducible refine Dx.do_orN ?_
  | with_reducible refine Dx.do_andN ?_
  | with_reducible refine Dx.do_andOne ?_
  | with_reducible refine Dx.do_xorN ?_
  | with_reducible refine Dx.do_shrN ?_
  | ((with_reducible refine Dx.do_oneShl ?_ ?_); (next => omega))
  | ((with_reducible refine Dx.do_mod ?_ ?_); (next => first | decide | assumption | omega))
  | ((with_reducible refine Dx.do_pow ?_ ?_); (next => decide))
  | ((with_reducible refine Dx.do_mul ?_ ?_); (next => first | exact Sx.mulL (by omega) (by omega) | exact Sx.mulR (by omega) (by omega)))
  | ((with_reducible refine Dx.do_fdiv ?_ ?_ ?_); (next => first | decide | assumption | omega); (next => first | decide | exact Dx.small8999 (by omega)))
  | ((with_reducible refine Dx.do_catL ?_ ?_); (next => wtm_at "size"))
  | ((with_reducible refine Dx.do_catT ?_ ?_); (next => wtm_at "size")))
local macro_rules | `(tactic| wtm_at "dx.vc") => `(tactic| first
  | with_reducible refine Dx.dc_lt ?_
  | with_reducible refine Dx.dc_le ?_
  | with_reducible refine Dx.dc_gt ?_
  | with_reducible refine Dx.dc_ge ?_
  | with_reducible refine Dx.dc_eqI ?_
  | with_reducible refine Dx.dc_neI ?_
  | with_reducible refine Dx.dc_eqS ?_
  | with_reducible refine Dx.dc_neS ?_
  | with_reducible refine Dx.dc_eqB ?_
  | with_reducible refine Dx.dc_neB ?_
  | with_reducible refine Dx.dc_isN ?_
  | with_reducible refine Dx.dc_notN ?_)
local macro_rules | `(tactic| wtm_at "dx.vf") => `(tactic| first
  | with_reducible refine Dx.dc_int1 ?_
  | with_reducible refine Dx.dc_abs ?_
  | ((with_reducible refine Dx.dc_divmod ?_ ?_); (next => first | decide | (constructor <;> omega)))
  | ((with_reducible refine Dx.dc_max2 ?_ ?_); (next => rfl))
  | ((with_reducible refine Dx.dc_min2 ?_ ?_); (next => rfl))
  | with_reducible refine Dx.dc_lenT ?_
  | with_reducible refine Dx.dc_lenL ?_
  | with_reducible refine Dx.dc_lenR ?_
  | with_reducible refine Dx.dc_tupL ?_
  | with_reducible refine Dx.dc_tupT ?_
  | with_reducible refine Dx.dc_lstL ?_
  | with_reducible refine Dx.dc_lstT ?_)
local macro_rules | `(tactic| wtm_at "dx.vr") => `(tactic| first
  | with_reducible refine Dx.du_neg ?_
  | with_reducible refine Dx.dtr_nat ?_
  | with_reducible refine Dx.dtr_tup ?_
  | with_reducible refine Dx.dtr_lst ?_
  | with_reducible refine Dx.dtr_non ?_
  | with_reducible refine Dx.du_inv ?_
  | with_reducible refine Dx.dtr_bl ?_
  | with_reducible refine Dx.dtr_int ?_
  | with_reducible refine Dx.dsl_lst ?_
  | with_reducible refine Dx.dsl_scr ?_
  | with_reducible refine Dx.dsl_tup ?_
  | ((with_reducible refine Dx.dix_tup ?_ ?_); (next => rfl))
  | ((with_reducible refine Dx.dix_lst ?_ ?_); (next => rfl)))
-- left-overs
local macro_rules | `(tactic| wtm_at "dx.x") => `(tactic| first
  | (with_reducible refine L2.iteT ?_)
  | (with_reducible refine Sx.brNt ?_)
  | (with_reducible refine Sx.brNf ?_)
  | (with_reducible refine L2.iteF ?_)
  | ((with_reducible show Dx.DP _ _ none _ _); refine Dx.dp_none ?_)
  | ((with_reducible show Dx.DP _ _ (some _) _ _); refine Dx.dp_some ?_)
  | ((with_reducible show Dx.DB _ _ _ _ _ _); unfold Dx.DB)
  | (with_reducible refine Dx.exI ?_)
  | (with_reducible refine Dx.exB ?_)
  | ((with_reducible show ∃ ds, Dx.agV _ = some ds ∧ List.length ds ≤ _ ∧ _); refine Dx.exLen rfl (by wtm_at "size") ?_)
  | ((with_reducible show ∃ ds, Dx.agV _ = some ds ∧ _); refine Dx.exVals rfl ?_)
  | ((with_reducible show ∃ ds, Dx.D.own _ = Dx.D.own ds ∧ _); refine ⟨_, rfl, ?_⟩)
  | ((with_reducible show ∃ u v, Dx.agV _ = some [u, v] ∧ _); refine Dx.exPar rfl ?_)
  | ((with_reducible show ∃ u v w, Dx.agV _ = some [u, v, w] ∧ _); refine Dx.exPar3 rfl ?_)
  | ((with_reducible show ∃ _ d1 ds _, _ ∧ _ ∧ Dx.D.items d1 = some ds ∧ _); refine Dx.exIx rfl rfl rfl ?_)
  | ((with_reducible show ∃ _ _ d1 ds, _ ∧ _ ∧ Dx.D.mutIs d1 = some ds ∧ _); refine Dx.exSub rfl rfl rfl ?_)
  | ((with_reducible show ∃ d1 ds, _ ∧ Dx.D.mutIs d1 = some ds ∧ _); refine Dx.exApp rfl rfl (by wtm_at "size") ?_))
local macro_rules | `(tactic| wtm_at "dx.f") => `(tactic| ((with_reducible show Dx.DE _ _ (PySem.Expr.Call (PySem.Expr.Name _ _) (_ :: _) [] _) _ _); refine Dx.d_call (by assumption) (by wtm_at "room") rfl (by decide) rfl rfl ?_))
local macro_rules | `(tactic| wtm_at "dx.bnd") => `(tactic| first | ((with_reducible show Dx.Bnd _ [] _ _); exact .nil) | ((with_reducible show Dx.Bnd _ (Dx.Ag.d _ :: _) _ _); exact .d (by wtm_at "dx.bnd")) | ((with_reducible show Dx.Bnd _ (Dx.Ag.len _ :: _) _ _); first | exact .lend rfl rfl (by wtm_at "dx.bnd") | exact .plain rfl rfl (by wtm_at "dx.bnd")))
local macro_rules | `(tactic| wtm_at "dx.blt") => `(tactic| first
  | ((with_reducible show Dx.DE _ _ (PySem.Expr.Call (PySem.Expr.Name "len" _) _ [] _) _ _); refine Dx.d_callB (id := "len") rfl (Sx.Blt.len (by assumption)) (by decide +kernel) (by decide) (by decide) rfl rfl ?_)
  | ((with_reducible show Dx.DE _ _ (PySem.Expr.Call (PySem.Expr.Name "int" _) _ [] _) _ _); refine Dx.d_callTy (T := "int") rfl (Sx.Blt.int (by assumption)) (by decide +kernel) (by decide) (by decide) rfl rfl ?_)
  | ((with_reducible show Dx.DE _ _ (PySem.Expr.Call (PySem.Expr.Name "abs" _) _ [] _) _ _); refine Dx.d_callB (id := "abs") rfl (Sx.Blt.abs (by assumption)) (by decide +kernel) (by decide) (by decide) rfl rfl ?_)
  | ((with_reducible show Dx.DE _ _ (PySem.Expr.Call (PySem.Expr.Name "tuple" _) _ [] _) _ _); refine Dx.d_callTy (T := "tuple") rfl (Sx.Blt.tuple (by assumption)) (by decide +kernel) (by decide) (by decide) rfl rfl ?_)
  | ((with_reducible show Dx.DE _ _ (PySem.Expr.Call (PySem.Expr.Name "list" _) _ [] _) _ _); refine Dx.d_callTy (T := "list") rfl (Sx.Blt.list (by assumption)) (by decide +kernel) (by decide) (by decide) rfl rfl ?_)
  | ((with_reducible show Dx.DE _ _ (PySem.Expr.Call (PySem.Expr.Name "set" _) _ [] _) _ _); refine Dx.d_callTy (T := "set") rfl (Sx.Blt.set (by assumption)) (by decide +kernel) (by decide) (by decide) rfl rfl ?_)
  | ((with_reducible show Dx.DE _ _ (PySem.Expr.Call (PySem.Expr.Name "sorted" _) _ [] _) _ _); refine Dx.d_callB (id := "sorted") rfl (Sx.Blt.sorted (by assumption)) (by decide +kernel) (by decide) (by decide) rfl rfl ?_)
  | ((with_reducible show Dx.DE _ _ (PySem.Expr.Call (PySem.Expr.Name "all" _) _ [] _) _ _); refine Dx.d_callB (id := "all") rfl (Sx.Blt.all (by assumption)) (by decide +kernel) (by decide) (by decide) rfl rfl ?_)
  | ((with_reducible show Dx.DE _ _ (PySem.Expr.Call (PySem.Expr.Name "divmod" _) _ [] _) _ _); refine Dx.d_callB (id := "divmod") rfl (Sx.Blt.divmod (by assumption)) (by decide +kernel) (by decide) (by decide) rfl rfl ?_)
  | ((with_reducible show Dx.DE _ _ (PySem.Expr.Call (PySem.Expr.Name "isinstance" _) _ [] _) _ _); refine Dx.d_callB (id := "isinstance") rfl (Sx.Blt.isinstance (by assumption)) (by decide +kernel) (by decide) (by decide) rfl rfl ?_)
  | ((with_reducible show Dx.DE _ _ (PySem.Expr.Call (PySem.Expr.Name "str" _) _ [] _) _ _); refine Dx.d_callTy (T := "str") rfl (Sx.Blt.str (by assumption)) (by decide +kernel) (by decide) (by decide) rfl rfl ?_)
  | ((with_reducible show Dx.DE _ _ (PySem.Expr.Call (PySem.Expr.Name "repr" _) _ [] _) _ _); refine Dx.d_callB (id := "repr") rfl (Sx.Blt.repr (by assumption)) (by decide +kernel) (by decide) (by decide) rfl rfl ?_)
  | ((with_reducible show Dx.DE _ _ (PySem.Expr.Call (PySem.Expr.Name "bool" _) _ [] _) _ _); refine Dx.d_callTy (T := "bool") rfl (Sx.Blt.bool (by assumption)) (by decide +kernel) (by decide) (by decide) rfl rfl ?_)
  | ((with_reducible show Dx.DE _ _ (PySem.Expr.Call (PySem.Expr.Name "min" _) _ [] _) _ _); refine Dx.d_callB (id := "min") rfl (Sx.Blt.min (by assumption)) (by decide +kernel) (by decide) (by decide) rfl rfl ?_)
  | ((with_reducible show Dx.DE _ _ (PySem.Expr.Call (PySem.Expr.Name "max" _) _ [] _) _ _); refine Dx.d_callB (id := "max") rfl (Sx.Blt.max (by assumption)) (by decide +kernel) (by decide) (by decide) rfl rfl ?_)
  | ((with_reducible show Dx.DE _ _ (PySem.Expr.Call (PySem.Expr.Name "sum" _) _ [] _) _ _); refine Dx.d_callB (id := "sum") rfl (Sx.Blt.sum (by assumption)) (by decide +kernel) (by decide) (by decide) rfl rfl ?_))
local macro_rules | `(tactic| wtm_at "dx1") => `(tactic| first
  | ((with_reducible show Dx.DE _ _ _ _ _); wtm_at "dx.e")
  | ((with_reducible show Dx.DO _ _ (PySem.binaryOp _) _ _ _ _); wtm_at "dx.vb")
  | ((with_reducible show Dx.DO _ _ (PySem.compareOp _) _ _ _ _); wtm_at "dx.vc")
  | ((with_reducible show Dx.DC _ _ _ _ _ _); wtm_at "dx.vf")
  | ((with_reducible show Dx.DA _ _ _ _ _); wtm_at "dx.a")
  | ((with_reducible show Dx.DSs _ _ _ _ _); wtm_at "dx.s")
  | ((with_reducible show Dx.DS _ _ _ _ _); wtm_at "dx.s")
  | ((with_reducible show Dx.DT _ _ _ _ _); wtm_at "dx.t")
  | ((with_reducible show Dx.DW _ _ _ _ _); wtm_at "dx.t")
  | ((with_reducible show Dx.DG _ _ _ _ _ _); wtm_at "dx.g")
  | ((with_reducible show Dx.DGs _ _ _ _ _ _); wtm_at "dx.g")
  | ((with_reducible show Dx.DIx _ _ _ _ _ _); wtm_at "dx.vr")
  | ((with_reducible show Dx.DTru _ _ _ _ _); wtm_at "dx.vr")
  | ((with_reducible show Dx.DU _ _ _ _ _ _); wtm_at "dx.vr")
  | ((with_reducible show Dx.DSl _ _ _ _ _ _ _); wtm_at "dx.vr")
  | wtm_at "dx.x")
local macro_rules | `(tactic| wtm_at "dx") => `(tactic| (repeat wtm_at "dx1"))
local macro_rules | `(tactic| wtm_at "for") => `(tactic| refine Dx.ds_for (fun _ => rfl) PySem.PassesOwn.never rfl ?_)
local macro_rules | `(tactic| wtm_at "di.R1") => `(tactic| refine Dx.di_R1 (by assumption) rfl rfl ?_)
local macro_rules | `(tactic| wtm_at "di.R2") => `(tactic| refine Dx.di_R2 (by assumption) rfl rfl rfl ?_)
local macro_rules | `(tactic| wtm_at "di.L") => `(tactic| refine Dx.di_L ?_)
local macro_rules | `(tactic| wtm_at "di.T") => `(tactic| refine Dx.di_T ?_)
local macro_rules | `(tactic| wtm_at "di.ET") => `(tactic| refine Dx.di_ET (by assumption) rfl rfl ?_)
local macro_rules | `(tactic| wtm_at "lc") => `(tactic| first | refine Dx.d_lc1 (n := 0) rfl rfl (by wtm_at "dx.nd") (by rfl) (by decide) (fun _ => rfl) ?_ | refine Dx.d_lc1 (n := 1) rfl rfl (by wtm_at "dx.nd") (by rfl) (by decide) (fun _ => rfl) ?_ | refine Dx.d_lc1 (n := 2) rfl rfl (by wtm_at "dx.nd") (by rfl) (by decide) (fun _ => rfl) ?_ | refine Dx.d_lc1 (n := 3) rfl rfl (by wtm_at "dx.nd") (by rfl) (by decide) (fun _ => rfl) ?_ | refine Dx.d_lc1 (n := 4) rfl rfl (by wtm_at "dx.nd") (by rfl) (by decide) (fun _ => rfl) ?_ | refine Dx.d_lc1 (n := 5) rfl rfl (by wtm_at "dx.nd") (by rfl) (by decide) (fun _ => rfl) ?_ | refine Dx.d_lc1 (n := 6) rfl rfl (by wtm_at "dx.nd") (by rfl) (by decide) (fun _ => rfl) ?_ | refine Dx.d_lc1 (n := 7) rfl rfl (by wtm_at "dx.nd") (by rfl) (by decide) (fun _ => rfl) ?_ | refine Dx.d_lc1 (n := 8) rfl rfl (by wtm_at "dx.nd") (by rfl) (by decide) (fun _ => rfl) ?_ | refine Dx.d_lc1 (n := 9) rfl rfl (by wtm_at "dx.nd") (by rfl) (by decide) (fun _ => rfl) ?_ | refine Dx.d_lc1 (n := 10) rfl rfl (by wtm_at "dx.nd") (by rfl) (by decide) (fun _ => rfl) ?_ | refine Dx.d_lc1 (n := 11) rfl rfl (by wtm_at "dx.nd") (by rfl) (by decide) (fun _ => rfl) ?_ | refine Dx.d_lc1 (n := 12) rfl rfl (by wtm_at "dx.nd") (by rfl) (by decide) (fun _ => rfl) ?_ | refine Dx.d_lc1 (n := 13) rfl rfl (by wtm_at "dx.nd") (by rfl) (by decide) (fun _ => rfl) ?_ | refine Dx.d_lc1 (n := 14) rfl rfl (by wtm_at "dx.nd") (by rfl) (by decide) (fun _ => rfl) ?_ | refine Dx.d_lc1 (n := 15) rfl rfl (by wtm_at "dx.nd") (by rfl) (by decide) (fun _ => rfl) ?_ | refine Dx.d_lc1 (n := 16) rfl rfl (by wtm_at "dx.nd") (by rfl) (by decide) (fun _ => rfl) ?_ | refine Dx.d_lc1 (n := 17) rfl rfl (by wtm_at "dx.nd") (by rfl) (by decide) (fun _ => rfl) ?_ | refine Dx.d_lc1 (n := 18) rfl rfl (by wtm_at "dx.nd") (by rfl) (by decide) (fun _ => rfl) ?_ | refine Dx.d_lc1 (n := 19) rfl rfl (by wtm_at "dx.nd") (by rfl) (by decide) (fun _ => rfl) ?_ | refine Dx.d_lc1 (n := 20) rfl rfl (by wtm_at "dx.nd") (by rfl) (by decide) (fun _ => rfl) ?_ | refine Dx.d_lc1 (n := 21) rfl rfl (by wtm_at "dx.nd") (by rfl) (by decide) (fun _ => rfl) ?_ | refine Dx.d_lc1 (n := 22) rfl rfl (by wtm_at "dx.nd") (by rfl) (by decide) (fun _ => rfl) ?_ | refine Dx.d_lc1 (n := 23) rfl rfl (by wtm_at "dx.nd") (by rfl) (by decide) (fun _ => rfl) ?_)
local macro_rules | `(tactic| wtm_at "call") => `(tactic| refine ⟨_, _, (by wtm_at "dx.bnd"), ?_⟩)
local macro_rules | `(tactic| wtm_at "turn0") => `(tactic| refine Dx.turn0 (ρ' := ?_) (by wtm_at "dx.nd") rfl (fun _ _ _ _ _ => (by wtm_at "dx.loc")) (fun _ _ _ _ _ => (by wtm_at "dx.loc")) (by wtm_at "dx.rho") (L2.iteT fun s0 H0 C0 cl0 fp0 => ?_))
local macro_rules | `(tactic| wtm_at "turn1") => `(tactic| refine Dx.turn1 (ρ' := ?_) (by wtm_at "dx.nd") rfl (fun _ _ _ _ _ => (by wtm_at "dx.loc")) (fun _ _ _ _ _ => (by wtm_at "dx.loc")) (by wtm_at "dx.rho") (fun s0 H0 C0 cl0 fp0 => ?_))
local macro_rules | `(tactic| wtm_at "nv") => `(tactic| (intro _ _ _ _ _; wtm_at "dx.loc"))
local macro_rules | `(tactic| wtm_at "hours") => `(tactic| (refine Dx.d_prop (cn := "Hours") (by assumption) (Pk.Env5.pH (by assumption)) (Pk.Txt.cl (by assumption)) (by wtm_at "room") rfl ?_))
local macro_rules | `(tactic| wtm_at "hx.b") => `(tactic| first
  | ((with_reducible show Dx.DO _ _ (PySem.binaryOp .Add) (Pk.hoursD _ _) (Pk.hoursD _ _) _ _); refine Pk.h_add (by assumption) (by wtm_at "room") (by assumption) (by assumption) (fun _ => ?_))
  | ((with_reducible show Dx.DO _ _ (PySem.binaryOp .Sub) (Pk.hoursD _ _) (Pk.hoursD _ _) _ _); refine Pk.h_sub (by assumption) (by wtm_at "room") (by assumption) (by assumption) (fun _ => ?_))
  | ((with_reducible show Dx.DO _ _ (PySem.binaryOp .BitOr) (Pk.hoursD _ _) (Pk.hoursD _ _) _ _); refine Pk.h_or (by assumption) (by wtm_at "room") (by assumption) (by assumption) (fun _ => ?_))
  | ((with_reducible show Dx.DO _ _ (PySem.binaryOp .BitAnd) (Pk.hoursD _ _) (Pk.hoursD _ _) _ _); refine Pk.h_and (by assumption) (by wtm_at "room") (by assumption) (by assumption) (fun _ => ?_))
  | ((with_reducible show Dx.DO _ _ (PySem.binaryOp .Mult) (Pk.hoursD _ _) (Dx.D.int _) _ _); refine Pk.h_mul (by assumption) (by wtm_at "room") (by assumption) (fun _ => ?_))
  | ((with_reducible show Dx.DU _ _ (PySem.unaryOp .USub) (Pk.hoursD _ _) _ _); refine Pk.h_neg (by assumption) (by wtm_at "room") (by assumption) (fun _ => ?_))
  | ((with_reducible show Dx.DU _ _ (PySem.unaryOp .Invert) (Pk.hoursD _ _) _ _); refine Pk.h_inv (by assumption) (by wtm_at "room") (by assumption) (fun _ => ?_)))
local macro_rules | `(tactic| wtm_at "hx.e") => `(tactic| first
  | ((with_reducible show Dx.DE _ _ (PySem.Expr.Attribute _ "hours" _) _ _); refine Pk.h_hours (by assumption) (by wtm_at "room") rfl ?_)
  | ((with_reducible show Dx.DE _ _ (PySem.Expr.Attribute _ "clock" _) _ _); refine Pk.h_clock (by assumption) (by wtm_at "room") rfl ?_)
  | ((with_reducible show Dx.DE _ _ (PySem.Expr.Call (PySem.Expr.Attribute _ "moved" _) [_] [] _) _ _); refine Pk.h_moved (by assumption) (by wtm_at "room") rfl rfl rfl ?_)
  | ((with_reducible show Dx.DE _ _ (PySem.Expr.Call (PySem.Expr.Attribute _ "moved" _) [] [_] _) _ _); refine Pk.h_movedK (by assumption) (by wtm_at "room") rfl rfl rfl rfl ?_)
  | ((with_reducible show Dx.DE _ _ (PySem.Expr.Call (PySem.Expr.Name "Hours" _) (_ :: _) [] _) _ _); refine Pk.h_make (by assumption) (by wtm_at "room") rfl rfl rfl ?_))
local macro_rules | `(tactic| wtm_at "hx.x") => `(tactic| first
  | ((with_reducible show Pk.Valid _ _ → _); intro _)
  | ((with_reducible show ∃ n ra, _ = Pk.hoursD n ra ∧ _); refine ⟨_, _, rfl, (by assumption), ?_⟩)
  | ((with_reducible show ∃ n ra, Dx.agV _ = some [_, Dx.D.tup (Pk.nats ra)] ∧ _); refine ⟨_, _, rfl, (by assumption), ?_⟩))
local macro_rules | `(tactic| wtm_at "hx") => `(tactic| (repeat first | wtm_at "dx1" | wtm_at "hx.b" | wtm_at "hx.e" | wtm_at "hx.x"))
namespace Pk
open PySem L2 Sx Mx Dx
section
variable {P : Program} {w : World} {K : PySem.W.Frag} {mg : Str → Option Value} {base : Heap} {C : Addr} {cl : Str → Option Addr}
def spRight : DSp := fun ds Q => ∃ ps : List D, ds = [.bor ps] ∧ Purse ps ∧ ∀ outs, Q (.bl true) outs
theorem scRight : FnScope ["purse", "many", "row", "mates", "a", "b", "c", "far_", "turned_v", "told", "due", "x"] ["purse"] (defScope (top 40)) := ⟨rfl, rfl, rfl, by decide +kernel, rfl, by decide +kernel, by decide +kernel⟩
theorem right1 {cdv : Value} {A : Around} {outer : List Env} {s : Shared} {H : Hp} {E : XK} {f : Addr} {O : Addr → Prop} {ba : Option Addr} {Q : D → List (List D) → Prop} {ps ps6 : List D} {n : Nat} {ra rb rc : List Nat} {far : Int} 
    (hr : Room 10 (A.deeper (PyProof.Rows.envOfC "_law_right" (defScope (top 40)) s.heap.objs.size f cdv))) (V5 : Env5 P w K mg base C cl) (n1 : 1 ≤ n) (n30 : n ≤ 30) (hva : Valid n ra) (hvb : Valid n rb) (hvc : Valid n rc) (hp6 : Purse ps6) (k : ∀ outs, Q (.bl true) outs) :
    DSs (cxOf CX0 P w K mg base ["purse", "many", "row", "mates", "a", "b", "c", "far_", "turned_v", "told", "due", "x"] "_law_right" (defScope (top 40)) f cdv A outer s H E).nox (fx0 K w cl H O ba) ((defBody (top 40)).drop 7)
      ⟨fun ρ => Q .non (outs [.bor ps] ρ), fun d ρ => Q d (outs [.bor ps] ρ), fun _ => False, fun _ => False⟩
      [some (.bor ps6), some (.int n), some (.tup (nats ra)), some (.tup (nats rb)), some (hoursD n ra), some (hoursD n rb), some (hoursD n rc), some (.int far), some (.tup (nats (bitsL (scaleN n (maskN ra) (-1))))), some (.own [.tup (nats (bitsL (sumsN n (maskN ra) (maskN rb)))), .tup (nats (bitsL (subN n (maskN rb) (maskN ra)))), .tup (nats (bitsL (scaleN n (maskN ra) (-1)))), .tup (nats (bitsL (scaleN n (maskN ra) far))), .tup (nats (bitsL (movedN n (maskN ra) far)))]), some (.own [.tup (nats (bitsL (sumsN n (maskN ra) (maskN rb)))), .tup (nats (bitsL (sumsN n (maskN rb) (maskN (bitsL (scaleN n (maskN ra) (-1))))))), .tup (nats (bitsL (scaleN n (maskN ra) (-1))))]), none] := by
  have nd := scRight.nd
  have B := V5.T.B
  have c1 := V5.dr
  have c2 := V5.so
  have c3 := V5.su
  have hvn : Valid n (bitsL (scaleN n (maskN ra) (-1))) := valid_bits hva.pos hva.le (scaleN_lt hva.pos)
  obtain ⟨fo, im⟩ := V5.T.im
  obtain ⟨ro, ir⟩ := V5.T.ir
  have hvm : Valid n (bitsL (scaleN n (maskN ra) far)) := valid_bits n1 (by omega) (scaleN_lt n1)
  have hvw : Valid n (bitsL (movedN n (maskN ra) far)) := valid_bits n1 (by omega) (wrapN_lt _ _)
  wtm_at "dx"
  wtm_at "lc"
  wtm_at "di.T"
  wtm_at "dx"
  refine ⟨_, rfl, fun hs1 D' => dlc_map (fun d => .int (((natOf d : Int) * far) % n)) nd rfl (by wtm_at "nv") (by wtm_at "nv") rfl (by rw [nats_len]; have := hva.len; omega) (fun d hd Q q s0 H0 C0 cl0 fp0 => ?_) ?_⟩
  · obtain ⟨y, hy, rfl⟩ := nats_mem hd
    have hy30 := hva.lt y hy
    wtm_at "dx"
    exact q
  rw [map_nats ra fun z => ((z : Int) * far) % n]
  wtm_at "dx"
  refine dc_setL rfl (by rw [List.length_map]; have := hva.len; omega) ?_
  wtm_at "dx"
  refine dc_sortSet rfl (fun ks hks hm => ?_) (fun ms h1 h2 => ?_)
  · have hlen : ks.length ≤ n := nodup_lt hks fun k hk => by
      obtain ⟨z, hz, e⟩ := List.mem_map.mp ((hm k).mp hk)
      rw [← e]
      exact ⟨Int.emod_nonneg _ (by omega), Int.emod_lt_of_pos _ (by omega)⟩
    omega
  wtm_at "dx"
  rw [toD' (mul_row hva h1 h2)]
  wtm_at "dx"
  wtm_at "lc"
  wtm_at "di.T"
  wtm_at "dx"
  refine ⟨_, rfl, fun hs1 D' => dlc_map (fun d => .int (((natOf d : Int) + far) % n)) nd rfl (by wtm_at "nv") (by wtm_at "nv") rfl (by rw [nats_len]; have := hva.len; omega) (fun d hd Q q s0 H0 C0 cl0 fp0 => ?_) ?_⟩
  · obtain ⟨y, hy, rfl⟩ := nats_mem hd
    wtm_at "dx"
    exact q
  rw [map_nats ra fun z => ((z : Int) + far) % n]
  wtm_at "dx"
  refine dc_sortL fun ms2 p1 p2 => ?_
  wtm_at "dx"
  rw [toD' (moved_row hva p1 p2)]
  wtm_at "dx"
  refine ne_rows [bitsL (sumsN n (maskN ra) (maskN rb)), bitsL (sumsN n (maskN rb) (maskN (bitsL (scaleN n (maskN ra) (-1))))), bitsL (scaleN n (maskN ra) (-1)), bitsL (scaleN n (maskN ra) far), bitsL (movedN n (maskN ra) far)] hr (by rw [id_sub]; rfl) ?_
  wtm_at "hx"
  refine h_neS V5 (by wtm_at "room") hvw hvw rfl ?_
  wtm_at "hx"
  refine do_catT (Sx.size5 (by rw [nats_len, nats_len]; have := hva.len; have := hvb.len; omega)) ?_
  rw [← nats_app, nats_int (ra ++ rb)]
  wtm_at "hx"
  refine dc_setT rfl (by rw [List.length_map, List.length_append]; have := hva.len; have := hvb.len; omega) ?_
  wtm_at "hx"
  refine dc_sortSet rfl (fun ks hks hm => ?_) (fun ms3 h1 h2 => ?_)
  · have hlen : ks.length ≤ n := nodup_lt hks fun k hk => by
      obtain ⟨z, hz, e⟩ := List.mem_map.mp ((hm k).mp hk)
      rw [← e]
      rcases List.mem_append.mp hz with h | h
      · have := hva.lt z h; omega
      · have := hvb.lt z h; omega
    omega
  wtm_at "hx"
  rw [toD' (or_row hva hvb h1 h2)]
  wtm_at "lc"
  wtm_at "di.T"
  wtm_at "hx"
  refine ⟨_, rfl, fun hs1 D' => dlc_mf (fun d => decide ((natOf d : Int) ∈ rb.map fun z : Nat => (z : Int))) (fun d => d) nd rfl (by wtm_at "nv") (by wtm_at "nv") rfl (by rw [nats_len]; have := hva.len; omega) (fun d hd Q q s0 H0 C0 cl0 fp0 => ?_) (fun d hd Q q s0 H0 C0 cl0 fp0 => ?_) ?_⟩
  · obtain ⟨y, hy, rfl⟩ := nats_mem hd
    wtm_at "hx"
    refine in_nats ?_
    exact ⟨_, rfl, q⟩
  · obtain ⟨y, hy, rfl⟩ := nats_mem hd
    wtm_at "hx"
    exact q
  rw [filt_nats ra fun k => decide ((k : Int) ∈ rb.map fun z : Nat => (z : Int)), and_row hva hvb]
  wtm_at "hx"
  wtm_at "lc"
  wtm_at "di.R1"
  wtm_at "hx"
  rw [rng_nats]
  refine ⟨by omega, fun hs1 D' => dlc_mf (fun d => !decide ((natOf d : Int) ∈ ra.map fun z : Nat => (z : Int))) (fun d => d) nd rfl (by wtm_at "nv") (by wtm_at "nv") rfl (by rw [nats_len, List.length_range]; omega) (fun d hd Q q s0 H0 C0 cl0 fp0 => ?_) (fun d hd Q q s0 H0 C0 cl0 fp0 => ?_) ?_⟩
  · obtain ⟨y, hy, rfl⟩ := nats_mem hd
    wtm_at "hx"
    refine notIn_nats ?_
    exact ⟨_, rfl, q⟩
  · obtain ⟨y, hy, rfl⟩ := nats_mem hd
    wtm_at "hx"
    exact q
  rw [filt_nats (List.range n) fun k => !decide ((k : Int) ∈ ra.map fun z : Nat => (z : Int)), not_row hva]
  wtm_at "hx"
  refine ne_rows [bitsL (maskN ra ||| maskN rb), bitsL (maskN ra &&& maskN rb), bitsL (maskN ra ^^^ (1 <<< n - 1))] hr rfl ?_
  wtm_at "hx"
  refine h_neS V5 (by wtm_at "room") (by assumption) (by assumption) (id_comm hva hvb) ?_
  wtm_at "hx"
  refine h_neS V5 (by wtm_at "room") (by assumption) (by assumption) (id_assoc hva hvb hvc) ?_
  wtm_at "hx"
  refine h_neS V5 (by wtm_at "room") (by assumption) (by assumption) (id_inv hva) ?_
  wtm_at "hx"
  refine h_neS V5 (by wtm_at "room") (by assumption) (by assumption) (id_neg hva) ?_
  wtm_at "hx"
  refine h_neS V5 (by wtm_at "room") (by assumption) (by assumption) id_sub ?_
  wtm_at "hx"
  refine ⟨n, [(far % n).toNat], ?_, valid_one n1 hva.le far, ?_⟩
  · show some [D.int n, .tup [.int (far % n)]] = some [D.int n, .tup [.int ((far % n).toNat : Nat)]]
    rw [emod_toNat n1]
  have hv1 := valid_one n1 hva.le far
  wtm_at "hx"
  refine h_neS V5 (by wtm_at "room") (by assumption) (by assumption) (id_moved hva far) ?_
  wtm_at "hx"
  refine h_neS V5 (by wtm_at "room") (by assumption) (by assumption) (id_one hva) ?_
  wtm_at "hx"
  refine h_neS V5 (by wtm_at "room") (by assumption) (by assumption) rfl ?_
  wtm_at "hx"
  refine eq_row ra hr rfl ?_
  wtm_at "hx"
  refine eq_row rb hr rfl ?_
  wtm_at "hx"
  rw [decide_eq_true rfl]
  exact k _
end
end Pk

end
section -- Lg
set_option maxRecDepth 100000
set_option maxHeartbeats 16000000
local macro_rules | `(tactic| wtm_at "dx.vis") => `(tactic| first | exact Or.inl rfl | exact Or.inr (Or.inl rfl) | exact Or.inr (Or.inr rfl))
local macro_rules | `(tactic| wtm_at "dx.loc") => `(tactic| first | exact Or.inl rfl | exact Or.inr rfl)
local macro_rules | `(tactic| wtm_at "dx.nd") => `(tactic| first | assumption | decide +kernel)
local macro_rules | `(tactic| wtm_at "room") => `(tactic| first | assumption | exact L2.Room.mono (by assumption) (by decide))
local macro_rules | `(tactic| wtm_at "size") => `(tactic| first
  | exact Nat.le_of_ble_eq_true rfl
  | exact Sx.size5 (by first | omega | (simp only [List.length_cons, List.length_nil, List.length_append, List.length_map, List.length_replicate]; omega))
  | exact Sx.size5l (by first | omega | (simp only [List.length_cons, List.length_nil, List.length_append, List.length_map, List.length_replicate]; omega)))
-- the slots written out
local macro_rules | `(tactic| wtm_at "dx.rho") => `(tactic| (simp (decide := true) only [L2.cxOf, L2.Cx.nox, Dx.startE, Dx.setE, Dx.putOut, Dx.D.put, Dx.D.fz, Dx.wipeE, List.map, List.map_cons, List.map_nil, List.length_cons, List.length_nil, List.replicate_succ, List.replicate_zero, List.cons_append, List.nil_append, List.append_nil, List.set_cons_succ, List.set_cons_zero, List.getElem?_cons_succ, List.getElem?_cons_zero, Nat.reduceAdd, Nat.reduceSub, Int.reduceToNat, if_true, if_false, ite_true, ite_false, reduceIte] <;> exact rfl))
local macro_rules | `(tactic| wtm_at "dx.n") => `(tactic| first
  | ((with_reducible show Dx.DSs _ _ _ _ (_)); first | ((with_reducible show Dx.DSs _ _ _ _ (Dx.setE _ _ _ _)); refine Dx.dss_env (ρ' := ?_) (by wtm_at "dx.rho") ?_) | ((with_reducible show Dx.DSs _ _ _ _ (Dx.putOut _ _ _)); refine Dx.dss_env (ρ' := ?_) (by wtm_at "dx.rho") ?_) | ((with_reducible show Dx.DSs _ _ _ _ (Dx.startE _ _)); refine Dx.dss_env (ρ' := ?_) (by wtm_at "dx.rho") ?_) | ((with_reducible show Dx.DSs _ _ _ _ (List.set _ _ _)); refine Dx.dss_env (ρ' := ?_) (by wtm_at "dx.rho") ?_) | ((with_reducible show Dx.DSs _ _ _ _ (Dx.wipeE _ _)); refine Dx.dss_env (ρ' := ?_) (by wtm_at "dx.rho") ?_))
  | ((with_reducible show Dx.DE _ _ _ (_) _); first | ((with_reducible show Dx.DE _ _ _ (Dx.setE _ _ _ _) _); refine Dx.de_env (ρ' := ?_) (by wtm_at "dx.rho") ?_) | ((with_reducible show Dx.DE _ _ _ (Dx.putOut _ _ _) _); refine Dx.de_env (ρ' := ?_) (by wtm_at "dx.rho") ?_) | ((with_reducible show Dx.DE _ _ _ (Dx.startE _ _) _); refine Dx.de_env (ρ' := ?_) (by wtm_at "dx.rho") ?_) | ((with_reducible show Dx.DE _ _ _ (List.set _ _ _) _); refine Dx.de_env (ρ' := ?_) (by wtm_at "dx.rho") ?_) | ((with_reducible show Dx.DE _ _ _ (Dx.wipeE _ _) _); refine Dx.de_env (ρ' := ?_) (by wtm_at "dx.rho") ?_))
  | ((with_reducible show Dx.DT _ _ _ (_) _); first | ((with_reducible show Dx.DT _ _ _ (Dx.setE _ _ _ _) _); refine Dx.dt_env (ρ' := ?_) (by wtm_at "dx.rho") ?_) | ((with_reducible show Dx.DT _ _ _ (Dx.putOut _ _ _) _); refine Dx.dt_env (ρ' := ?_) (by wtm_at "dx.rho") ?_) | ((with_reducible show Dx.DT _ _ _ (Dx.startE _ _) _); refine Dx.dt_env (ρ' := ?_) (by wtm_at "dx.rho") ?_) | ((with_reducible show Dx.DT _ _ _ (List.set _ _ _) _); refine Dx.dt_env (ρ' := ?_) (by wtm_at "dx.rho") ?_) | ((with_reducible show Dx.DT _ _ _ (Dx.wipeE _ _) _); refine Dx.dt_env (ρ' := ?_) (by wtm_at "dx.rho") ?_))
  | ((with_reducible show Dx.DG _ _ _ _ (_) _); first | ((with_reducible show Dx.DG _ _ _ _ (Dx.setE _ _ _ _) _); refine Dx.dg_env (ρ' := ?_) (by wtm_at "dx.rho") ?_) | ((with_reducible show Dx.DG _ _ _ _ (Dx.putOut _ _ _) _); refine Dx.dg_env (ρ' := ?_) (by wtm_at "dx.rho") ?_) | ((with_reducible show Dx.DG _ _ _ _ (Dx.startE _ _) _); refine Dx.dg_env (ρ' := ?_) (by wtm_at "dx.rho") ?_) | ((with_reducible show Dx.DG _ _ _ _ (List.set _ _ _) _); refine Dx.dg_env (ρ' := ?_) (by wtm_at "dx.rho") ?_) | ((with_reducible show Dx.DG _ _ _ _ (Dx.wipeE _ _) _); refine Dx.dg_env (ρ' := ?_) (by wtm_at "dx.rho") ?_))
  | ((with_reducible show Dx.DGs _ _ _ _ (_) _); first | ((with_reducible show Dx.DGs _ _ _ _ (Dx.setE _ _ _ _) _); refine Dx.dgs_env (ρ' := ?_) (by wtm_at "dx.rho") ?_) | ((with_reducible show Dx.DGs _ _ _ _ (Dx.putOut _ _ _) _); refine Dx.dgs_env (ρ' := ?_) (by wtm_at "dx.rho") ?_) | ((with_reducible show Dx.DGs _ _ _ _ (Dx.startE _ _) _); refine Dx.dgs_env (ρ' := ?_) (by wtm_at "dx.rho") ?_) | ((with_reducible show Dx.DGs _ _ _ _ (List.set _ _ _) _); refine Dx.dgs_env (ρ' := ?_) (by wtm_at "dx.rho") ?_) | ((with_reducible show Dx.DGs _ _ _ _ (Dx.wipeE _ _) _); refine Dx.dgs_env (ρ' := ?_) (by wtm_at "dx.rho") ?_)))
-- expressions
local macro_rules | `(tactic| wtm_at "dx.e") => `(tactic| first
  | wtm_at "dx.n"
  | with_reducible refine Dx.d_int ?_
  | with_reducible refine Dx.d_bl ?_
  | with_reducible refine Dx.d_non ?_
  | with_reducible refine Dx.d_str ?_
  | ((with_reducible show Dx.DE _ _ (PySem.Expr.Name _ _) _ _); refine Dx.d_name rfl rfl (by wtm_at "dx.vis") (by decide) (by decide) ?_)
  | ((with_reducible show Dx.DE _ _ (PySem.Expr.Name _ _) _ _); refine Dx.d_nameO (by wtm_at "dx.nd") rfl (by wtm_at "dx.vis") (by decide) (by decide) ?_)
  | ((with_reducible show Dx.DE _ _ (PySem.Expr.Name "int" _) _ _); refine Dx.d_bltTy (T := "int") rfl (Sx.Blt.int (by assumption)) (by decide +kernel) (by decide) (by decide) ?_)
  | ((with_reducible show Dx.DE _ _ (PySem.Expr.Name "bool" _) _ _); refine Dx.d_bltTy (T := "bool") rfl (Sx.Blt.bool (by assumption)) (by decide +kernel) (by decide) (by decide) ?_)
  | ((with_reducible show Dx.DE _ _ (PySem.Expr.Name "tuple" _) _ _); refine Dx.d_bltTy (T := "tuple") rfl (Sx.Blt.tuple (by assumption)) (by decide +kernel) (by decide) (by decide) ?_)
  | ((with_reducible show Dx.DE _ _ (PySem.Expr.Name "str" _) _ _); refine Dx.d_bltTy (T := "str") rfl (Sx.Blt.str (by assumption)) (by decide +kernel) (by decide) (by decide) ?_)
  | ((with_reducible show Dx.DE _ _ (PySem.Expr.Name _ _) _ _); refine Dx.d_globI rfl (by assumption) (by decide) ?_)
  | with_reducible refine Dx.d_bin ?_
  | with_reducible refine Dx.d_not ?_
  | with_reducible refine Dx.d_un ?_
  | ((with_reducible refine Dx.d_cmp ?_ ?_); (next => first | rfl | exact L2.nomark _))
  | with_reducible refine Dx.d_one ?_
  | ((with_reducible show Dx.DE _ _ (PySem.Expr.Compare _ [_, _] [_, _] _) _ _); refine Dx.d_chain (by with_unfolding_all rfl) ?_)
  | with_reducible refine Dx.d_and ?_
  | with_reducible refine Dx.d_or ?_
  | with_reducible refine Dx.d_if ?_
  | with_reducible refine Dx.d_tup ?_
  | with_reducible refine Dx.d_lst ?_
  | with_reducible refine Dx.d_sl ?_
  | ((with_reducible show Dx.DE _ _ (PySem.Expr.Subscript (PySem.Expr.Name _ _) _ _) _ _); refine Dx.d_ixO (fun _ _ => rfl) rfl rfl (by wtm_at "dx.vis") (by decide) (by decide) (by wtm_at "dx.nd") ?_)
  | ((with_reducible refine Dx.d_ix ?_ ?_); (next => exact fun _ _ => rfl))
  | ((with_reducible show Dx.DE _ _ (PySem.Expr.Call (PySem.Expr.Name "len" _) [PySem.Expr.Name _ _] [] _) _ _); refine Dx.d_lenO (by assumption) rfl rfl rfl (by wtm_at "dx.vis") (by decide) (by decide) rfl ?_)
  | ((with_reducible show Dx.DE _ _ (PySem.Expr.Call (PySem.Expr.Attribute (PySem.Expr.Name _ _) "append" _) [_] [] _) _ _); refine Dx.d_append (by wtm_at "dx.nd") rfl rfl rfl rfl rfl rfl rfl (by wtm_at "dx.vis") (by decide) (by decide) ?_)
  | ((with_reducible show Dx.DE _ _ (PySem.Expr.Call (PySem.Expr.Attribute (PySem.Expr.Name _ _) "pop" _) [_] [] _) _ _); refine Dx.d_popAt (by wtm_at "dx.nd") rfl rfl rfl rfl rfl rfl rfl (by wtm_at "dx.vis") (by decide) (by decide) ?_)
  | wtm_at "dx.blt"
  | wtm_at "dx.f")
-- arguments: the purse is lent
local macro_rules | `(tactic| wtm_at "dx.a") => `(tactic| first
  | with_reducible refine Dx.da_nil ?_
  | ((with_reducible show Dx.DA _ _ (PySem.Expr.Name "purse" _ :: _) _ _); first | refine Dx.da_lend (i := 0) rfl ⟨_, rfl⟩ (by wtm_at "dx.vis") (by decide) (by decide) rfl ?_ | refine Dx.da_lend (i := 1) rfl ⟨_, rfl⟩ (by wtm_at "dx.vis") (by decide) (by decide) rfl ?_ | refine Dx.da_lend (i := 2) rfl ⟨_, rfl⟩ (by wtm_at "dx.vis") (by decide) (by decide) rfl ?_ | refine Dx.da_lend (i := 3) rfl ⟨_, rfl⟩ (by wtm_at "dx.vis") (by decide) (by decide) rfl ?_ | refine Dx.da_lend (i := 4) rfl ⟨_, rfl⟩ (by wtm_at "dx.vis") (by decide) (by decide) rfl ?_ | refine Dx.da_lend (i := 5) rfl ⟨_, rfl⟩ (by wtm_at "dx.vis") (by decide) (by decide) rfl ?_ | refine Dx.da_lend (i := 6) rfl ⟨_, rfl⟩ (by wtm_at "dx.vis") (by decide) (by decide) rfl ?_ | refine Dx.da_lend (i := 7) rfl ⟨_, rfl⟩ (by wtm_at "dx.vis") (by decide) (by decide) rfl ?_ | refine Dx.da_lend (i := 8) rfl ⟨_, rfl⟩ (by wtm_at "dx.vis") (by decide) (by decide) rfl ?_ | refine Dx.da_lend (i := 9) rfl ⟨_, rfl⟩ (by wtm_at "dx.vis") (by decide) (by decide) rfl ?_)
  | ((with_reducible refine Dx.da_cons ?_ ?_); (next => rfl)))
local macro_rules | `(tactic| wtm_at "dx.t") => `(tactic| first
  | wtm_at "dx.n"
  | ((with_reducible refine Dx.dt_cmp ?_ ?_); (next => first | rfl | exact L2.nomark _))
  | with_reducible refine Dx.dt_not ?_
  | with_reducible refine Dx.dw_and ?_
  | with_reducible refine Dx.dw_and1 ?_
  | with_reducible refine Dx.dw_or ?_
  | with_reducible refine Dx.dw_or1 ?_
  | (with_reducible refine Dx.dt_pw (e := .BoolOp _ _ _) ?_)
  | ((with_reducible refine Dx.dt_val ?_ ?_); (next => (intro _; rfl))))
local macro_rules | `(tactic| wtm_at "dx.s") => `(tactic| first
  | wtm_at "dx.n"
  | with_reducible refine Dx.ds_nil ?_
  | with_reducible refine Dx.ds_cons ?_
  | with_reducible refine Dx.ds_pass ?_
  | with_reducible refine Dx.ds_break ?_
  | with_reducible refine Dx.ds_continue ?_
  | with_reducible refine Dx.ds_ret ?_
  | with_reducible refine Dx.ds_retN ?_
  | with_reducible refine Dx.ds_if ?_
  | ((with_reducible refine Dx.ds_expr ?_ ?_); (next => rfl))
  | ((with_reducible show Dx.DS _ _ (PySem.Stmt.Assign [PySem.Expr.Name "due" _] (PySem.Expr.List _ _) _) _ _); refine Dx.ds_own (by wtm_at "dx.nd") rfl (by wtm_at "dx.loc") (.inl rfl) rfl ?_)
  | ((with_reducible show Dx.DS _ _ (PySem.Stmt.Assign [PySem.Expr.Name "told" _] (PySem.Expr.List _ _) _) _ _); refine Dx.ds_own (by wtm_at "dx.nd") rfl (by wtm_at "dx.loc") (.inl rfl) rfl ?_)
  | ((with_reducible show Dx.DS _ _ (PySem.Stmt.Assign [PySem.Expr.Name "made" _] (PySem.Expr.List _ _) _) _ _); refine Dx.ds_own (by wtm_at "dx.nd") rfl (by wtm_at "dx.loc") (.inl rfl) rfl ?_)
  | ((with_reducible show Dx.DS _ _ (PySem.Stmt.Assign [PySem.Expr.Name "shots" _] (PySem.Expr.List _ _) _) _ _); refine Dx.ds_own (by wtm_at "dx.nd") rfl (by wtm_at "dx.loc") (.inl rfl) rfl ?_)
  | ((with_reducible refine Dx.ds_set ?_ ?_ ?_ ?_ ?_ ?_); (next => wtm_at "dx.nd"); (next => rfl); (next => wtm_at "dx.loc"); (next => exact .inl rfl); (next => rfl))
  | ((with_reducible show Dx.DS _ _ (PySem.Stmt.Assign [PySem.Expr.Tuple [_, _] _ _] (PySem.Expr.Tuple [_, _] _ _) _) _ _); refine Dx.ds_par rfl (by wtm_at "dx.nd") rfl rfl (by decide) rfl rfl rfl rfl ?_)
  | ((with_reducible show Dx.DS _ _ (PySem.Stmt.Assign [PySem.Expr.Tuple [_, _, _] _ _] (PySem.Expr.Tuple [_, _, _] _ _) _) _ _); refine Dx.ds_par3 rfl (by wtm_at "dx.nd") rfl rfl rfl (by decide) (by decide) (by decide) rfl rfl rfl rfl rfl ?_)
  | ((with_reducible refine Dx.ds_asg ?_ ?_ ?_ ?_); (next => rfl); (next => rfl); (next => rfl))
  | ((with_reducible show Dx.DSs _ _ _ _ _); refine Dx.ds_cons ?_))
local macro_rules | `(tactic| wtm_at "dx.g") => `(tactic| first
  | wtm_at "dx.n"
  | ((with_reducible refine Dx.dg_name ?_ ?_ ?_ ?_ ?_); (next => wtm_at "dx.nd"); (next => rfl); (next => wtm_at "dx.loc"); (next => exact .inl rfl))
  | ((with_reducible show Dx.DG _ _ (PySem.Expr.Tuple _ _ _) _ _ _); refine Dx.dg_tup rfl rfl rfl rfl ?_)
  | with_reducible refine Dx.dgs_nil ?_
  | ((with_reducible refine Dx.dgs_cons ?_ ?_); (next => rfl))
  | ((with_reducible show Dx.DG _ _ (PySem.Expr.Subscript (PySem.Expr.Name _ _) _ _) _ _ _); refine Dx.dg_sub (by wtm_at "dx.nd") (fun _ => rfl) rfl (by wtm_at "dx.vis") (by decide) (by decide) ?_))
-- values
local macro_rules | `(tactic| wtm_at "dx.vb") => `(tactic| first
  | with_reducible refine Dx.do_add ?_
  | with_reducible refine Dx.do_sub ?_
  | with_reducible refine Dx.do_orN ?_
  | with_reducible refine Dx.do_andN ?_
  | with_reducible refine Dx.do_andOne ?_
  | with_reducible refine Dx.do_xorN ?_
  | with_reducible refine Dx.do_shrN ?_
  | ((with_reducible refine Dx.do_oneShl ?_ ?_); (next => omega))
  | ((with_reducible refine Dx.do_mod ?_ ?_); (next => first | decide | assumption | omega))
  | ((with_reducible refine Dx.do_pow ?_ ?_); (next => decide))
  | ((with_reducible refine Dx.do_mul ?_ ?_); (next => first | exact Sx.mulL (by omega) (by omega) | exact Sx.mulR (by omega) (by omega)))
  | ((with_reducible refine Dx.do_fdiv ?_ ?_ ?_); (next => first | decide | assumption | omega); (next => first | decide | exact Dx.small8999 (by omega)))
  | ((with_reducible refine Dx.do_catL ?_ ?_); (next => wtm_at "size"))
  | ((with_reducible refine Dx.do_catT ?_ ?_); (next => wtm_at "size")))
local macro_rules | `(tactic| wtm_at "dx.vc") => `(tactic| first
  | with_reducible refine Dx.dc_lt ?_
  | with_reducible refine Dx.dc_le ?_
  | with_reducible refine Dx.dc_gt ?_
  | with_reducible refine Dx.dc_ge ?_
  | with_reducible refine Dx.dc_eqI ?_
  | with_reducible refine Dx.dc_neI ?_
  | with_reducible refine Dx.dc_eqS ?_
  | with_reducible refine Dx.dc_neS ?_
  | with_reducible refine Dx.dc_eqB ?_
  | with_reducible refine Dx.dc_neB ?_
  | with_reducible refine Dx.dc_isN ?_
  | with_reducible refine Dx.dc_notN ?_)
local macro_rules | `(tactic| wtm_at "dx.vf") => `(tactic| first
  | with_reducible refine Dx.dc_int1 ?_
  | with_reducible refine Dx.dc_abs ?_
  | ((with_reducible refine Dx.dc_divmod ?_ ?_); (next => first | decide | (constructor <;> omega)))
  | ((with_reducible refine Dx.dc_max2 ?_ ?_); (next => rfl))
  | ((with_reducible refine Dx.dc_min2 ?_ ?_); (next => rfl))
  | with_reducible refine Dx.dc_lenT ?_
  | with_reducible refine Dx.dc_lenL ?_
  | with_reducible refine Dx.dc_lenR ?_
  | with_reducible refine Dx.dc_tupL ?_
  | with_reducible refine Dx.dc_tupT ?_
  | with_reducible refine Dx.dc_lstL ?_
  | with_reducible refine Dx.dc_lstT ?_)
local macro_rules | `(tactic| wtm_at "dx.vr") => `(tactic| first
  | with_reducible refine Dx.du_neg ?_
  | with_reducible refine Dx.dtr_nat ?_
  | with_reducible refine Dx.dtr_tup ?_
  | with_reducible refine Dx.dtr_lst ?_
  | with_reducible refine Dx.dtr_non ?_
  | with_reducible refine Dx.du_inv ?_
  | with_reducible refine Dx.dtr_bl ?_
  | with_reducible refine Dx.dtr_int ?_
  | with_reducible refine Dx.dsl_lst ?_
  | with_reducible refine Dx.dsl_scr ?_
  | with_reducible refine Dx.dsl_tup ?_
  | ((with_reducible refine Dx.dix_tup ?_ ?_); (next => rfl))
  | ((with_reducible refine Dx.dix_lst ?_ ?_); (next => rfl)))
-- left-overs
local macro_rules | `(tactic| wtm_at "dx.x") => `(tactic| first
  | (with_reducible refine L2.iteT ?_)
  | (with_reducible refine Sx.brNt ?_)
  | (with_reducible refine Sx.brNf ?_)
  | (with_reducible refine L2.iteF ?_)
  | ((with_reducible show Dx.DP _ _ none _ _); refine Dx.dp_none ?_)
  | ((with_reducible show Dx.DP _ _ (some _) _ _); refine Dx.dp_some ?_)
  | ((with_reducible show Dx.DB _ _ _ _ _ _); unfold Dx.DB)
  | (with_reducible refine Dx.exI ?_)
  | (with_reducible refine Dx.exB ?_)
  | ((with_reducible show ∃ ds, Dx.agV _ = some ds ∧ List.length ds ≤ _ ∧ _); refine Dx.exLen rfl (by wtm_at "size") ?_)
  | ((with_reducible show ∃ ds, Dx.agV _ = some ds ∧ _); refine Dx.exVals rfl ?_)
  | ((with_reducible show ∃ ds, Dx.D.own _ = Dx.D.own ds ∧ _); refine ⟨_, rfl, ?_⟩)
  | ((with_reducible show ∃ u v, Dx.agV _ = some [u, v] ∧ _); refine Dx.exPar rfl ?_)
  | ((with_reducible show ∃ u v w, Dx.agV _ = some [u, v, w] ∧ _); refine Dx.exPar3 rfl ?_)
  | ((with_reducible show ∃ _ d1 ds _, _ ∧ _ ∧ Dx.D.items d1 = some ds ∧ _); refine Dx.exIx rfl rfl rfl ?_)
  | ((with_reducible show ∃ _ _ d1 ds, _ ∧ _ ∧ Dx.D.mutIs d1 = some ds ∧ _); refine Dx.exSub rfl rfl rfl ?_)
  | ((with_reducible show ∃ d1 ds, _ ∧ Dx.D.mutIs d1 = some ds ∧ _); refine Dx.exApp rfl rfl (by wtm_at "size") ?_))
local macro_rules | `(tactic| wtm_at "dx.f") => `(tactic| ((with_reducible show Dx.DE _ _ (PySem.Expr.Call (PySem.Expr.Name _ _) (_ :: _) [] _) _ _); refine Dx.d_call (by assumption) (by wtm_at "room") rfl (by decide) rfl rfl ?_))
local macro_rules | `(tactic| wtm_at "dx.bnd") => `(tactic| first | ((with_reducible show Dx.Bnd _ [] _ _); exact .nil) | ((with_reducible show Dx.Bnd _ (Dx.Ag.d _ :: _) _ _); exact .d (by wtm_at "dx.bnd")) | ((with_reducible show Dx.Bnd _ (Dx.Ag.len _ :: _) _ _); first | exact .lend rfl rfl (by wtm_at "dx.bnd") | exact .plain rfl rfl (by wtm_at "dx.bnd")))
local macro_rules | `(tactic| wtm_at "dx.blt") => `(tactic| first
  | ((with_reducible show Dx.DE _ _ (PySem.Expr.Call (PySem.Expr.Name "len" _) _ [] _) _ _); refine Dx.d_callB (id := "len") rfl (Sx.Blt.len (by assumption)) (by decide +kernel) (by decide) (by decide) rfl rfl ?_)
  | ((with_reducible show Dx.DE _ _ (PySem.Expr.Call (PySem.Expr.Name "int" _) _ [] _) _ _); refine Dx.d_callTy (T := "int") rfl (Sx.Blt.int (by assumption)) (by decide +kernel) (by decide) (by decide) rfl rfl ?_)
  | ((with_reducible show Dx.DE _ _ (PySem.Expr.Call (PySem.Expr.Name "abs" _) _ [] _) _ _); refine Dx.d_callB (id := "abs") rfl (Sx.Blt.abs (by assumption)) (by decide +kernel) (by decide) (by decide) rfl rfl ?_)
  | ((with_reducible show Dx.DE _ _ (PySem.Expr.Call (PySem.Expr.Name "tuple" _) _ [] _) _ _); refine Dx.d_callTy (T := "tuple") rfl (Sx.Blt.tuple (by assumption)) (by decide +kernel) (by decide) (by decide) rfl rfl ?_)
  | ((with_reducible show Dx.DE _ _ (PySem.Expr.Call (PySem.Expr.Name "list" _) _ [] _) _ _); refine Dx.d_callTy (T := "list") rfl (Sx.Blt.list (by assumption)) (by decide +kernel) (by decide) (by decide) rfl rfl ?_)
  | ((with_reducible show Dx.DE _ _ (PySem.Expr.Call (PySem.Expr.Name "set" _) _ [] _) _ _); refine Dx.d_callTy (T := "set") rfl (Sx.Blt.set (by assumption)) (by decide +kernel) (by decide) (by decide) rfl rfl ?_)
  | ((with_reducible show Dx.DE _ _ (PySem.Expr.Call (PySem.Expr.Name "sorted" _) _ [] _) _ _); refine Dx.d_callB (id := "sorted") rfl (Sx.Blt.sorted (by assumption)) (by decide +kernel) (by decide) (by decide) rfl rfl ?_)
  | ((with_reducible show Dx.DE _ _ (PySem.Expr.Call (PySem.Expr.Name "all" _) _ [] _) _ _); refine Dx.d_callB (id := "all") rfl (Sx.Blt.all (by assumption)) (by decide +kernel) (by decide) (by decide) rfl rfl ?_)
  | ((with_reducible show Dx.DE _ _ (PySem.Expr.Call (PySem.Expr.Name "divmod" _) _ [] _) _ _); refine Dx.d_callB (id := "divmod") rfl (Sx.Blt.divmod (by assumption)) (by decide +kernel) (by decide) (by decide) rfl rfl ?_)
  | ((with_reducible show Dx.DE _ _ (PySem.Expr.Call (PySem.Expr.Name "isinstance" _) _ [] _) _ _); refine Dx.d_callB (id := "isinstance") rfl (Sx.Blt.isinstance (by assumption)) (by decide +kernel) (by decide) (by decide) rfl rfl ?_)
  | ((with_reducible show Dx.DE _ _ (PySem.Expr.Call (PySem.Expr.Name "str" _) _ [] _) _ _); refine Dx.d_callTy (T := "str") rfl (Sx.Blt.str (by assumption)) (by decide +kernel) (by decide) (by decide) rfl rfl ?_)
  | ((with_reducible show Dx.DE _ _ (PySem.Expr.Call (PySem.Expr.Name "repr" _) _ [] _) _ _); refine Dx.d_callB (id := "repr") rfl (Sx.Blt.repr (by assumption)) (by decide +kernel) (by decide) (by decide) rfl rfl ?_)
  | ((with_reducible show Dx.DE _ _ (PySem.Expr.Call (PySem.Expr.Name "bool" _) _ [] _) _ _); refine Dx.d_callTy (T := "bool") rfl (Sx.Blt.bool (by assumption)) (by decide +kernel) (by decide) (by decide) rfl rfl ?_)
  | ((with_reducible show Dx.DE _ _ (PySem.Expr.Call (PySem.Expr.Name "min" _) _ [] _) _ _); refine Dx.d_callB (id := "min") rfl (Sx.Blt.min (by assumption)) (by decide +kernel) (by decide) (by decide) rfl rfl ?_)
  | ((with_reducible show Dx.DE _ _ (PySem.Expr.Call (PySem.Expr.Name "max" _) _ [] _) _ _); refine Dx.d_callB (id := "max") rfl (Sx.Blt.max (by assumption)) (by decide +kernel) (by decide) (by decide) rfl rfl ?_)
  | ((with_reducible show Dx.DE _ _ (PySem.Expr.Call (PySem.Expr.Name "sum" _) _ [] _) _ _); refine Dx.d_callB (id := "sum") rfl (Sx.Blt.sum (by assumption)) (by decide +kernel) (by decide) (by decide) rfl rfl ?_))
local macro_rules | `(tactic| wtm_at "dx1") => `(tactic| first
  | ((with_reducible show Dx.DE _ _ _ _ _); wtm_at "dx.e")
  | ((with_reducible show Dx.DO _ _ (PySem.binaryOp _) _ _ _ _); wtm_at "dx.vb")
  | ((with_reducible show Dx.DO _ _ (PySem.compareOp _) _ _ _ _); wtm_at "dx.vc")
  | ((with_reducible show Dx.DC _ _ _ _ _ _); wtm_at "dx.vf")
  | ((with_reducible show Dx.DA _ _ _ _ _); wtm_at "dx.a")
  | ((with_reducible show Dx.DSs _ _ _ _ _); wtm_at "dx.s")
  | ((with_reducible show Dx.DS _ _ _ _ _); wtm_at "dx.s")
  | ((with_reducible show Dx.DT _ _ _ _ _); wtm_at "dx.t")
  | ((with_reducible show Dx.DW _ _ _ _ _); wtm_at "dx.t")
  | ((with_reducible show Dx.DG _ _ _ _ _ _); wtm_at "dx.g")
  | ((with_reducible show Dx.DGs _ _ _ _ _ _); wtm_at "dx.g")
  | ((with_reducible show Dx.DIx _ _ _ _ _ _); wtm_at "dx.vr")
  | ((with_reducible show Dx.DTru _ _ _ _ _); wtm_at "dx.vr")
  | ((with_reducible show Dx.DU _ _ _ _ _ _); wtm_at "dx.vr")
  | ((with_reducible show Dx.DSl _ _ _ _ _ _ _); wtm_at "dx.vr")
  | wtm_at "dx.x")
local macro_rules | `(tactic| wtm_at "dx") => `(tactic| (repeat wtm_at "dx1"))
local macro_rules | `(tactic| wtm_at "for") => `(tactic| refine Dx.ds_for (fun _ => rfl) PySem.PassesOwn.never rfl ?_)
local macro_rules | `(tactic| wtm_at "di.R1") => `(tactic| refine Dx.di_R1 (by assumption) rfl rfl ?_)
local macro_rules | `(tactic| wtm_at "di.R2") => `(tactic| refine Dx.di_R2 (by assumption) rfl rfl rfl ?_)
local macro_rules | `(tactic| wtm_at "di.L") => `(tactic| refine Dx.di_L ?_)
local macro_rules | `(tactic| wtm_at "di.T") => `(tactic| refine Dx.di_T ?_)
local macro_rules | `(tactic| wtm_at "di.ET") => `(tactic| refine Dx.di_ET (by assumption) rfl rfl ?_)
local macro_rules | `(tactic| wtm_at "lc") => `(tactic| first | refine Dx.d_lc1 (n := 0) rfl rfl (by wtm_at "dx.nd") (by rfl) (by decide) (fun _ => rfl) ?_ | refine Dx.d_lc1 (n := 1) rfl rfl (by wtm_at "dx.nd") (by rfl) (by decide) (fun _ => rfl) ?_ | refine Dx.d_lc1 (n := 2) rfl rfl (by wtm_at "dx.nd") (by rfl) (by decide) (fun _ => rfl) ?_ | refine Dx.d_lc1 (n := 3) rfl rfl (by wtm_at "dx.nd") (by rfl) (by decide) (fun _ => rfl) ?_ | refine Dx.d_lc1 (n := 4) rfl rfl (by wtm_at "dx.nd") (by rfl) (by decide) (fun _ => rfl) ?_ | refine Dx.d_lc1 (n := 5) rfl rfl (by wtm_at "dx.nd") (by rfl) (by decide) (fun _ => rfl) ?_ | refine Dx.d_lc1 (n := 6) rfl rfl (by wtm_at "dx.nd") (by rfl) (by decide) (fun _ => rfl) ?_ | refine Dx.d_lc1 (n := 7) rfl rfl (by wtm_at "dx.nd") (by rfl) (by decide) (fun _ => rfl) ?_ | refine Dx.d_lc1 (n := 8) rfl rfl (by wtm_at "dx.nd") (by rfl) (by decide) (fun _ => rfl) ?_ | refine Dx.d_lc1 (n := 9) rfl rfl (by wtm_at "dx.nd") (by rfl) (by decide) (fun _ => rfl) ?_ | refine Dx.d_lc1 (n := 10) rfl rfl (by wtm_at "dx.nd") (by rfl) (by decide) (fun _ => rfl) ?_ | refine Dx.d_lc1 (n := 11) rfl rfl (by wtm_at "dx.nd") (by rfl) (by decide) (fun _ => rfl) ?_ | refine Dx.d_lc1 (n := 12) rfl rfl (by wtm_at "dx.nd") (by rfl) (by decide) (fun _ => rfl) ?_ | refine Dx.d_lc1 (n := 13) rfl rfl (by wtm_at "dx.nd") (by rfl) (by decide) (fun _ => rfl) ?_ | refine Dx.d_lc1 (n := 14) rfl rfl (by wtm_at "dx.nd") (by rfl) (by decide) (fun _ => rfl) ?_ | refine Dx.d_lc1 (n := 15) rfl rfl (by wtm_at "dx.nd") (by rfl) (by decide) (fun _ => rfl) ?_ | refine Dx.d_lc1 (n := 16) rfl rfl (by wtm_at "dx.nd") (by rfl) (by decide) (fun _ => rfl) ?_ | refine Dx.d_lc1 (n := 17) rfl rfl (by wtm_at "dx.nd") (by rfl) (by decide) (fun _ => rfl) ?_ | refine Dx.d_lc1 (n := 18) rfl rfl (by wtm_at "dx.nd") (by rfl) (by decide) (fun _ => rfl) ?_ | refine Dx.d_lc1 (n := 19) rfl rfl (by wtm_at "dx.nd") (by rfl) (by decide) (fun _ => rfl) ?_ | refine Dx.d_lc1 (n := 20) rfl rfl (by wtm_at "dx.nd") (by rfl) (by decide) (fun _ => rfl) ?_ | refine Dx.d_lc1 (n := 21) rfl rfl (by wtm_at "dx.nd") (by rfl) (by decide) (fun _ => rfl) ?_ | refine Dx.d_lc1 (n := 22) rfl rfl (by wtm_at "dx.nd") (by rfl) (by decide) (fun _ => rfl) ?_ | refine Dx.d_lc1 (n := 23) rfl rfl (by wtm_at "dx.nd") (by rfl) (by decide) (fun _ => rfl) ?_)
local macro_rules | `(tactic| wtm_at "call") => `(tactic| refine ⟨_, _, (by wtm_at "dx.bnd"), ?_⟩)
local macro_rules | `(tactic| wtm_at "turn0") => `(tactic| refine Dx.turn0 (ρ' := ?_) (by wtm_at "dx.nd") rfl (fun _ _ _ _ _ => (by wtm_at "dx.loc")) (fun _ _ _ _ _ => (by wtm_at "dx.loc")) (by wtm_at "dx.rho") (L2.iteT fun s0 H0 C0 cl0 fp0 => ?_))
local macro_rules | `(tactic| wtm_at "turn1") => `(tactic| refine Dx.turn1 (ρ' := ?_) (by wtm_at "dx.nd") rfl (fun _ _ _ _ _ => (by wtm_at "dx.loc")) (fun _ _ _ _ _ => (by wtm_at "dx.loc")) (by wtm_at "dx.rho") (fun s0 H0 C0 cl0 fp0 => ?_))
local macro_rules | `(tactic| wtm_at "nv") => `(tactic| (intro _ _ _ _ _; wtm_at "dx.loc"))
local macro_rules | `(tactic| wtm_at "hours") => `(tactic| (refine Dx.d_prop (cn := "Hours") (by assumption) (Pk.Env5.pH (by assumption)) (Pk.Txt.cl (by assumption)) (by wtm_at "room") rfl ?_))
local macro_rules | `(tactic| wtm_at "hx.b") => `(tactic| first
  | ((with_reducible show Dx.DO _ _ (PySem.binaryOp .Add) (Pk.hoursD _ _) (Pk.hoursD _ _) _ _); refine Pk.h_add (by assumption) (by wtm_at "room") (by assumption) (by assumption) (fun _ => ?_))
  | ((with_reducible show Dx.DO _ _ (PySem.binaryOp .Sub) (Pk.hoursD _ _) (Pk.hoursD _ _) _ _); refine Pk.h_sub (by assumption) (by wtm_at "room") (by assumption) (by assumption) (fun _ => ?_))
  | ((with_reducible show Dx.DO _ _ (PySem.binaryOp .BitOr) (Pk.hoursD _ _) (Pk.hoursD _ _) _ _); refine Pk.h_or (by assumption) (by wtm_at "room") (by assumption) (by assumption) (fun _ => ?_))
  | ((with_reducible show Dx.DO _ _ (PySem.binaryOp .BitAnd) (Pk.hoursD _ _) (Pk.hoursD _ _) _ _); refine Pk.h_and (by assumption) (by wtm_at "room") (by assumption) (by assumption) (fun _ => ?_))
  | ((with_reducible show Dx.DO _ _ (PySem.binaryOp .Mult) (Pk.hoursD _ _) (Dx.D.int _) _ _); refine Pk.h_mul (by assumption) (by wtm_at "room") (by assumption) (fun _ => ?_))
  | ((with_reducible show Dx.DU _ _ (PySem.unaryOp .USub) (Pk.hoursD _ _) _ _); refine Pk.h_neg (by assumption) (by wtm_at "room") (by assumption) (fun _ => ?_))
  | ((with_reducible show Dx.DU _ _ (PySem.unaryOp .Invert) (Pk.hoursD _ _) _ _); refine Pk.h_inv (by assumption) (by wtm_at "room") (by assumption) (fun _ => ?_)))
local macro_rules | `(tactic| wtm_at "hx.e") => `(tactic| first
  | ((with_reducible show Dx.DE _ _ (PySem.Expr.Attribute _ "hours" _) _ _); refine Pk.h_hours (by assumption) (by wtm_at "room") rfl ?_)
  | ((with_reducible show Dx.DE _ _ (PySem.Expr.Attribute _ "clock" _) _ _); refine Pk.h_clock (by assumption) (by wtm_at "room") rfl ?_)
  | ((with_reducible show Dx.DE _ _ (PySem.Expr.Call (PySem.Expr.Attribute _ "moved" _) [_] [] _) _ _); refine Pk.h_moved (by assumption) (by wtm_at "room") rfl rfl rfl ?_)
  | ((with_reducible show Dx.DE _ _ (PySem.Expr.Call (PySem.Expr.Attribute _ "moved" _) [] [_] _) _ _); refine Pk.h_movedK (by assumption) (by wtm_at "room") rfl rfl rfl rfl ?_)
  | ((with_reducible show Dx.DE _ _ (PySem.Expr.Call (PySem.Expr.Name "Hours" _) (_ :: _) [] _) _ _); refine Pk.h_make (by assumption) (by wtm_at "room") rfl rfl rfl ?_))
local macro_rules | `(tactic| wtm_at "hx.x") => `(tactic| first
  | ((with_reducible show Pk.Valid _ _ → _); intro _)
  | ((with_reducible show ∃ n ra, _ = Pk.hoursD n ra ∧ _); refine ⟨_, _, rfl, (by assumption), ?_⟩)
  | ((with_reducible show ∃ n ra, Dx.agV _ = some [_, Dx.D.tup (Pk.nats ra)] ∧ _); refine ⟨_, _, rfl, (by assumption), ?_⟩))
local macro_rules | `(tactic| wtm_at "hx") => `(tactic| (repeat first | wtm_at "dx1" | wtm_at "hx.b" | wtm_at "hx.e" | wtm_at "hx.x"))
namespace Pk
open PySem L2 Sx Mx Dx
section
variable {P : Program} {w : World} {K : PySem.W.Frag} {mg : Str → Option Value} {base : Heap} {C : Addr} {cl : Str → Option Addr}
theorem ok_lright {f : Addr} {fd : FuncData} (F : Fun K "_law_right" "_law_right" (top 40) f fd) (V5 : Env5 P w K mg base C cl) : FnOk P w K mg base CX0 11 f fd ["purse"] (toSp K w cl spRight) := by
  refine dfn F scRight (fun ds Q h => ?_) (fun cdv A outer s H E ds O ba Q hr h => ?_)
  · obtain ⟨ps, rfl, _⟩ := h
    rfl
  · obtain ⟨ps, rfl, hp, k⟩ := h
    have nd := scRight.nd
    have B := V5.T.B
    have c1 := V5.dr
    have c2 := V5.so
    have c3 := V5.su
    wtm_at "dx"
    wtm_at "call"
    refine ⟨ps, 3, rfl, hp, by decide, by decide, fun r ps1 h0 h1 hp1 => ?_⟩
    have hm : ∃ m : Int, atI [D.int 6, .int 12, .int 30] r = some (.int m) ∧ 1 ≤ m ∧ m ≤ 30 := by
      rcases (show r = 0 ∨ r = 1 ∨ r = 2 by omega) with rfl | rfl | rfl
      · exact ⟨6, rfl, by decide, by decide⟩
      · exact ⟨12, rfl, by decide, by decide⟩
      · exact ⟨30, rfl, by decide, by decide⟩
    obtain ⟨m, hm, hm1, hm2⟩ := hm
    refine dix_lst hm ?_
    wtm_at "dx"
    wtm_at "call"
    refine ⟨ps1, m, rfl, hp1, by omega, by omega, fun r2 ps2 h20 h21 hp2 => ?_⟩
    obtain ⟨n, hn⟩ : ∃ n : Nat, 1 + r2 = (n : Int) := Int.eq_ofNat_of_zero_le (by omega)
    have n1 : 1 ≤ n := by omega
    have n30 : n ≤ 30 := by omega
    refine do_add ?_
    rw [hn]
    wtm_at "dx"
    wtm_at "call"
    refine ⟨ps2, n, rfl, hp2, by omega, by omega, fun ra ps3 ra1 ra2 hp3 => ?_⟩
    have hva : Valid n ra := ⟨n1, by omega, ra1, fun k hk => by have := ra2 k hk; omega⟩
    wtm_at "dx"
    wtm_at "call"
    refine ⟨ps3, n, rfl, hp3, by omega, by omega, fun rb ps4 rb1 rb2 hp4 => ?_⟩
    have hvb : Valid n rb := ⟨n1, by omega, rb1, fun k hk => by have := rb2 k hk; omega⟩
    wtm_at "dx"
    refine d_make (d_mk V5.hc V5.mkr) (by wtm_at "room") rfl rfl rfl ?_
    wtm_at "dx"
    refine ⟨n, ra, rfl, hva, ?_⟩
    wtm_at "dx"
    refine d_make (d_mk V5.hc V5.mkr) (by wtm_at "room") rfl rfl rfl ?_
    wtm_at "dx"
    refine ⟨n, rb, rfl, hvb, ?_⟩
    wtm_at "dx"
    refine d_make (d_mk V5.hc V5.mkr) (by wtm_at "room") rfl rfl rfl ?_
    wtm_at "dx"
    wtm_at "call"
    refine ⟨ps4, n, rfl, hp4, by omega, by omega, fun rc ps5 rc1 rc2 hp5 => ?_⟩
    have hvc : Valid n rc := ⟨n1, by omega, rc1, fun k hk => by have := rc2 k hk; omega⟩
    wtm_at "dx"
    refine ⟨n, rc, rfl, hvc, ?_⟩
    wtm_at "dx"
    wtm_at "call"
    refine ⟨ps5, 8, rfl, hp5, by decide, by decide, fun r3 ps6 h30 h31 hp6 => ?_⟩
    have hf : ∃ i : Int, atI [D.int 0, .int 1, .int (-1), .int n, .int (10 ^ 30 + 1), .int (-10 ^ 20), .int 7, .int 2] r3 = some (.int i) := by
      rcases (show r3 = 0 ∨ r3 = 1 ∨ r3 = 2 ∨ r3 = 3 ∨ r3 = 4 ∨ r3 = 5 ∨ r3 = 6 ∨ r3 = 7 by omega) with rfl | rfl | rfl | rfl | rfl | rfl | rfl | rfl
      all_goals exact ⟨_, rfl⟩
    obtain ⟨far, hf⟩ := hf
    refine dix_lst hf ?_
    wtm_at "dx"
    wtm_at "lc"
    wtm_at "di.T"
    wtm_at "dx"
    refine ⟨_, rfl, fun hs1 D' => dlc_map (fun d => .int (((n : Int) - natOf d) % n)) nd rfl (by wtm_at "nv") (by wtm_at "nv") rfl (by rw [nats_len]; have := hva.len; omega) (fun d hd Q q s0 H0 C0 cl0 fp0 => ?_) ?_⟩
    · obtain ⟨y, hy, rfl⟩ := nats_mem hd
      wtm_at "dx"
      exact q
    rw [map_nats ra fun z => ((n : Int) - z) % n]
    wtm_at "dx"
    refine dc_sortL fun ms p1 p2 => ?_
    wtm_at "dx"
    rw [toD' (neg_row hva p1 p2)]
    have hvn : Valid n (bitsL (scaleN n (maskN ra) (-1))) := valid_bits hva.pos hva.le (scaleN_lt hva.pos)
    refine d_prop V5.hc V5.pH V5.T.cl (by wtm_at "room") rfl ?_
    wtm_at "dx"
    refine do_own V5.hc V5.T.ops V5.add (by wtm_at "room") ⟨n, ra, rb, rfl, hva, hvb, ⟨_, rfl, n, _, rfl, valid_bits n1 (by omega) (sumsN_lt _ _ _), ?_⟩⟩
    wtm_at "dx"
    refine d_prop V5.hc V5.pH V5.T.cl (by wtm_at "room") rfl ?_
    wtm_at "dx"
    refine do_own V5.hc V5.T.ops V5.sub (by wtm_at "room") ⟨n, rb, ra, rfl, hvb, hva, ⟨_, rfl, n, _, rfl, valid_bits n1 (by omega) (sumsN_lt _ _ _), ?_⟩⟩
    wtm_at "dx"
    refine d_prop V5.hc V5.pH V5.T.cl (by wtm_at "room") rfl ?_
    wtm_at "dx"
    refine du_ownNeg V5.hc V5.neg (by wtm_at "room") ⟨n, ra, rfl, hva, ⟨_, rfl, n, _, rfl, hvn, ?_⟩⟩
    wtm_at "dx"
    refine d_prop V5.hc V5.pH V5.T.cl (by wtm_at "room") rfl ?_
    wtm_at "dx"
    obtain ⟨fo, im⟩ := V5.T.im
    obtain ⟨ro, ir⟩ := V5.T.ir
    have hvm : Valid n (bitsL (scaleN n (maskN ra) far)) := valid_bits n1 (by omega) (scaleN_lt n1)
    have hvw : Valid n (bitsL (movedN n (maskN ra) far)) := valid_bits n1 (by omega) (wrapN_lt _ _)
    refine do_ownI V5.hc V5.T.ops V5.mul (by wtm_at "room") V5.T.rm im ir V5.T.ci ⟨n, ra, far, rfl, hva, ⟨_, rfl, n, _, rfl, hvm, ?_⟩⟩
    wtm_at "dx"
    refine d_prop V5.hc V5.pH V5.T.cl (by wtm_at "room") rfl ?_
    refine d_meth V5.hc V5.mov V5.T.cl (by wtm_at "room") rfl rfl rfl ?_
    wtm_at "dx"
    refine ⟨_, rfl, rfl, ?_⟩
    wtm_at "dx"
    refine ⟨n, ra, far, rfl, hva, ⟨_, rfl, n, _, rfl, hvw, ?_⟩⟩
    wtm_at "dx"
    wtm_at "call"
    refine ⟨n, ra, rb, rfl, hva, hvb, n30, ?_⟩
    wtm_at "dx"
    wtm_at "call"
    refine ⟨n, rb, _, rfl, hvb, hvn, n30, ?_⟩
    repeat ((fail_if_success (with_reducible show Dx.DSs _ _ (PySem.Stmt.Expr _ _ :: _) _ _)); wtm_at "dx1")
    exact right1 hr V5 n1 n30 hva hvb hvc hp6 k
end
end Pk

end
section -- Lh
set_option maxRecDepth 100000
set_option maxHeartbeats 16000000
local macro_rules | `(tactic| wtm_at "dx.vis") => `(tactic| first | exact Or.inl rfl | exact Or.inr (Or.inl rfl) | exact Or.inr (Or.inr rfl))
local macro_rules | `(tactic| wtm_at "dx.loc") => `(tactic| first | exact Or.inl rfl | exact Or.inr rfl)
local macro_rules | `(tactic| wtm_at "dx.nd") => `(tactic| first | assumption | decide +kernel)
local macro_rules | `(tactic| wtm_at "room") => `(tactic| first | assumption | exact L2.Room.mono (by assumption) (by decide))
local macro_rules | `(tactic| wtm_at "size") => `(tactic| first
  | exact Nat.le_of_ble_eq_true rfl
  | exact Sx.size5 (by first | omega | (simp only [List.length_cons, List.length_nil, List.length_append, List.length_map, List.length_replicate]; omega))
  | exact Sx.size5l (by first | omega | (simp only [List.length_cons, List.length_nil, List.length_append, List.length_map, List.length_replicate]; omega)))
-- the slots written out
local macro_rules | `(tactic| wtm_at "dx.rho") => `(tactic| (simp (decide := true) only [L2.cxOf, L2.Cx.nox, Dx.startE, Dx.setE, Dx.putOut, Dx.D.put, Dx.D.fz, Dx.wipeE, List.map, List.map_cons, List.map_nil, List.length_cons, List.length_nil, List.replicate_succ, List.replicate_zero, List.cons_append, List.nil_append, List.append_nil, List.set_cons_succ, List.set_cons_zero, List.getElem?_cons_succ, List.getElem?_cons_zero, Nat.reduceAdd, Nat.reduceSub, Int.reduceToNat, if_true, if_false, ite_true, ite_false, reduceIte] <;> exact rfl))
local macro_rules | `(tactic| wtm_at "dx.n") => `(tactic| first
  | ((with_reducible show Dx.DSs _ _ _ _ (_)); first | ((with_reducible show Dx.DSs _ _ _ _ (Dx.setE _ _ _ _)); refine Dx.dss_env (ρ' := ?_) (by wtm_at "dx.rho") ?_) | ((with_reducible show Dx.DSs _ _ _ _ (Dx.putOut _ _ _)); refine Dx.dss_env (ρ' := ?_) (by wtm_at "dx.rho") ?_) | ((with_reducible show Dx.DSs _ _ _ _ (Dx.startE _ _)); refine Dx.dss_env (ρ' := ?_) (by wtm_at "dx.rho") ?_) | ((with_reducible show Dx.DSs _ _ _ _ (List.set _ _ _)); refine Dx.dss_env (ρ' := ?_) (by wtm_at "dx.rho") ?_) | ((with_reducible show Dx.DSs _ _ _ _ (Dx.wipeE _ _)); refine Dx.dss_env (ρ' := ?_) (by wtm_at "dx.rho") ?_))
  | ((with_reducible show Dx.DE _ _ _ (_) _); first | ((with_reducible show Dx.DE _ _ _ (Dx.setE _ _ _ _) _); refine Dx.de_env (ρ' := ?_) (by wtm_at "dx.rho") ?_) | ((with_reducible show Dx.DE _ _ _ (Dx.putOut _ _ _) _); refine Dx.de_env (ρ' := ?_) (by wtm_at "dx.rho") ?_) | ((with_reducible show Dx.DE _ _ _ (Dx.startE _ _) _); refine Dx.de_env (ρ' := ?_) (by wtm_at "dx.rho") ?_) | ((with_reducible show Dx.DE _ _ _ (List.set _ _ _) _); refine Dx.de_env (ρ' := ?_) (by wtm_at "dx.rho") ?_) | ((with_reducible show Dx.DE _ _ _ (Dx.wipeE _ _) _); refine Dx.de_env (ρ' := ?_) (by wtm_at "dx.rho") ?_))
  | ((with_reducible show Dx.DT _ _ _ (_) _); first | ((with_reducible show Dx.DT _ _ _ (Dx.setE _ _ _ _) _); refine Dx.dt_env (ρ' := ?_) (by wtm_at "dx.rho") ?_) | ((with_reducible show Dx.DT _ _ _ (Dx.putOut _ _ _) _); refine Dx.dt_env (ρ' := ?_) (by wtm_at "dx.rho") ?_) | ((with_reducible show Dx.DT _ _ _ (Dx.startE _ _) _); refine Dx.dt_env (ρ' := ?_) (by wtm_at "dx.rho") ?_) | ((with_reducible show Dx.DT _ _ _ (List.set _ _ _) _); refine Dx.dt_env (ρ' := ?_) (by wtm_at "dx.rho") ?_) | ((with_reducible show Dx.DT _ _ _ (Dx.wipeE _ _) _); refine Dx.dt_env (ρ' := ?_) (by wtm_at "dx.rho") ?_))
  | ((with_reducible show Dx.DG _ _ _ _ (_) _); first | ((with_reducible show Dx.DG _ _ _ _ (Dx.setE _ _ _ _) _); refine Dx.dg_env (ρ' := ?_) (by wtm_at "dx.rho") ?_) | ((with_reducible show Dx.DG _ _ _ _ (Dx.putOut _ _ _) _); refine Dx.dg_env (ρ' := ?_) (by wtm_at "dx.rho") ?_) | ((with_reducible show Dx.DG _ _ _ _ (Dx.startE _ _) _); refine Dx.dg_env (ρ' := ?_) (by wtm_at "dx.rho") ?_) | ((with_reducible show Dx.DG _ _ _ _ (List.set _ _ _) _); refine Dx.dg_env (ρ' := ?_) (by wtm_at "dx.rho") ?_) | ((with_reducible show Dx.DG _ _ _ _ (Dx.wipeE _ _) _); refine Dx.dg_env (ρ' := ?_) (by wtm_at "dx.rho") ?_))
  | ((with_reducible show Dx.DGs _ _ _ _ (_) _); first | ((with_reducible show Dx.DGs _ _ _ _ (Dx.setE _ _ _ _) _); refine Dx.dgs_env (ρ' := ?_) (by wtm_at "dx.rho") ?_) | ((with_reducible show Dx.DGs _ _ _ _ (Dx.putOut _ _ _) _); refine Dx.dgs_env (ρ' := ?_) (by wtm_at "dx.rho") ?_) | ((with_reducible show Dx.DGs _ _ _ _ (Dx.startE _ _) _); refine Dx.dgs_env (ρ' := ?_) (by wtm_at "dx.rho") ?_) | ((with_reducible show Dx.DGs _ _ _ _ (List.set _ _ _) _); refine Dx.dgs_env (ρ' := ?_) (by wtm_at "dx.rho") ?_) | ((with_reducible show Dx.DGs _ _ _ _ (Dx.wipeE _ _) _); refine Dx.dgs_env (ρ' := ?_) (by wtm_at "dx.rho") ?_)))
-- expressions
local macro_rules | `(tactic| wtm_at "dx.e") => `(tactic| first
  | wtm_at "dx.n"
  | with_reducible refine Dx.d_int ?_
  | with_reducible refine Dx.d_bl ?_
  | with_reducible refine Dx.d_non ?_
  | with_reducible refine Dx.d_str ?_
  | ((with_reducible show Dx.DE _ _ (PySem.Expr.Name _ _) _ _); refine Dx.d_name rfl rfl (by wtm_at "dx.vis") (by decide) (by decide) ?_)
  | ((with_reducible show Dx.DE _ _ (PySem.Expr.Name _ _) _ _); refine Dx.d_nameO (by wtm_at "dx.nd") rfl (by wtm_at "dx.vis") (by decide) (by decide) ?_)
  | ((with_reducible show Dx.DE _ _ (PySem.Expr.Name "int" _) _ _); refine Dx.d_bltTy (T := "int") rfl (Sx.Blt.int (by assumption)) (by decide +kernel) (by decide) (by decide) ?_)
  | ((with_reducible show Dx.DE _ _ (PySem.Expr.Name "bool" _) _ _); refine Dx.d_bltTy (T := "bool") rfl (Sx.Blt.bool (by assumption)) (by decide +kernel) (by decide) (by decide) ?_)
  | ((with_reducible show Dx.DE _ _ (PySem.Expr.Name "tuple" _) _ _); refine Dx.d_bltTy (T := "tuple") rfl (Sx.Blt.tuple (by assumption)) (by decide +kernel) (by decide) (by decide) ?_)
  | ((with_reducible show Dx.DE _ _ (PySem.Expr.Name "str" _) _ _); refine Dx.d_bltTy (T := "str") rfl (Sx.Blt.str (by assumption)) (by decide +kernel) (by decide) (by decide) ?_)
  | ((with_reducible show Dx.DE _ _ (PySem.Expr.Name _ _) _ _); refine Dx.d_globI rfl (by assumption) (by decide) ?_)
  | with_reducible refine Dx.d_bin ?_
  | with_reducible refine Dx.d_not ?_
  | with_reducible refine Dx.d_un ?_
  | ((with_reducible refine Dx.d_cmp ?_ ?_); (next => first | rfl | exact L2.nomark _))
  | with_reducible refine Dx.d_one ?_
  | ((with_reducible show Dx.DE _ _ (PySem.Expr.Compare _ [_, _] [_, _] _) _ _); refine Dx.d_chain (by with_unfolding_all rfl) ?_)
  | with_reducible refine Dx.d_and ?_
  | with_reducible refine Dx.d_or ?_
  | with_reducible refine Dx.d_if ?_
  | with_reducible refine Dx.d_tup ?_
  | with_reducible refine Dx.d_lst ?_
  | with_reducible refine Dx.d_sl ?_
  | ((with_reducible show Dx.DE _ _ (PySem.Expr.Subscript (PySem.Expr.Name _ _) _ _) _ _); refine Dx.d_ixO (fun _ _ => rfl) rfl rfl (by wtm_at "dx.vis") (by decide) (by decide) (by wtm_at "dx.nd") ?_)
  | ((with_reducible refine Dx.d_ix ?_ ?_); (next => exact fun _ _ => rfl))
  | ((with_reducible show Dx.DE _ _ (PySem.Expr.Call (PySem.Expr.Name "len" _) [PySem.Expr.Name _ _] [] _) _ _); refine Dx.d_lenO (by assumption) rfl rfl rfl (by wtm_at "dx.vis") (by decide) (by decide) rfl ?_)
  | ((with_reducible show Dx.DE _ _ (PySem.Expr.Call (PySem.Expr.Attribute (PySem.Expr.Name _ _) "append" _) [_] [] _) _ _); refine Dx.d_append (by wtm_at "dx.nd") rfl rfl rfl rfl rfl rfl rfl (by wtm_at "dx.vis") (by decide) (by decide) ?_)
  | ((with_reducible show Dx.DE _ _ (PySem.Expr.Call (PySem.Expr.Attribute (PySem.Expr.Name _ _) "pop" _) [_] [] _) _ _); refine Dx.d_popAt (by wtm_at "dx.nd") rfl rfl rfl rfl rfl rfl rfl (by wtm_at "dx.vis") (by decide) (by decide) ?_)
  | wtm_at "dx.blt"
  | wtm_at "dx.f")
-- arguments: the purse is lent
local macro_rules | `(tactic| wtm_at "dx.a") => `(tactic| first
  | with_reducible refine Dx.da_nil ?_
  | ((with_reducible show Dx.DA _ _ (PySem.Expr.Name "purse" _ :: _) _ _); first | refine Dx.da_lend (i := 0) rfl ⟨_, rfl⟩ (by wtm_at "dx.vis") (by decide) (by decide) rfl ?_ | refine Dx.da_lend (i := 1) rfl ⟨_, rfl⟩ (by wtm_at "dx.vis") (by decide) (by decide) rfl ?_ | refine Dx.da_lend (i := 2) rfl ⟨_, rfl⟩ (by wtm_at "dx.vis") (by decide) (by decide) rfl ?_ | refine Dx.da_lend (i := 3) rfl ⟨_, rfl⟩ (by wtm_at "dx.vis") (by decide) (by decide) rfl ?_ | refine Dx.da_lend (i := 4) rfl ⟨_, rfl⟩ (by wtm_at "dx.vis") (by decide) (by decide) rfl ?_ | refine Dx.da_lend (i := 5) rfl ⟨_, rfl⟩ (by wtm_at "dx.vis") (by decide) (by decide) rfl ?_ | refine Dx.da_lend (i := 6) rfl ⟨_, rfl⟩ (by wtm_at "dx.vis") (by decide) (by decide) rfl ?_ | refine Dx.da_lend (i := 7) rfl ⟨_, rfl⟩ (by wtm_at "dx.vis") (by decide) (by decide) rfl ?_ | refine Dx.da_lend (i := 8) rfl ⟨_, rfl⟩ (by wtm_at "dx.vis") (by decide) (by decide) rfl ?_ | refine Dx.da_lend (i := 9) rfl ⟨_, rfl⟩ (by wtm_at "dx.vis") (by decide) (by decide) rfl ?_)
  | ((with_reducible refine Dx.da_cons ?_ ?_); (next => rfl)))
local macro_rules | `(tactic| wtm_at "dx.t") => `(tactic| first
  | wtm_at "dx.n"
  | ((with_reducible refine Dx.dt_cmp ?_ ?_); (next => first | rfl | exact L2.nomark _))
  | with_reducible refine Dx.dt_not ?_
  | with_reducible refine Dx.dw_and ?_
  | with_reducible refine Dx.dw_and1 ?_
  | with_reducible refine Dx.dw_or ?_
  | with_reducible refine Dx.dw_or1 ?_
  | (with_reducible refine Dx.dt_pw (e := .BoolOp _ _ _) ?_)
  | ((with_reducible refine Dx.dt_val ?_ ?_); (next => (intro _; rfl))))
local macro_rules | `(tactic| wtm_at "dx.s") => `(tactic| first
  | wtm_at "dx.n"
  | with_reducible refine Dx.ds_nil ?_
  | with_reducible refine Dx.ds_cons ?_
  | with_reducible refine Dx.ds_pass ?_
  | with_reducible refine Dx.ds_break ?_
  | with_reducible refine Dx.ds_continue ?_
  | with_reducible refine Dx.ds_ret ?_
  | with_reducible refine Dx.ds_retN ?_
  | with_reducible refine Dx.ds_if ?_
  | ((with_reducible refine Dx.ds_expr ?_ ?_); (next => rfl))
  | ((with_reducible show Dx.DS _ _ (PySem.Stmt.Assign [PySem.Expr.Name "due" _] (PySem.Expr.List _ _) _) _ _); refine Dx.ds_own (by wtm_at "dx.nd") rfl (by wtm_at "dx.loc") (.inl rfl) rfl ?_)
  | ((with_reducible show Dx.DS _ _ (PySem.Stmt.Assign [PySem.Expr.Name "told" _] (PySem.Expr.List _ _) _) _ _); refine Dx.ds_own (by wtm_at "dx.nd") rfl (by wtm_at "dx.loc") (.inl rfl) rfl ?_)
  | ((with_reducible show Dx.DS _ _ (PySem.Stmt.Assign [PySem.Expr.Name "made" _] (PySem.Expr.List _ _) _) _ _); refine Dx.ds_own (by wtm_at "dx.nd") rfl (by wtm_at "dx.loc") (.inl rfl) rfl ?_)
  | ((with_reducible show Dx.DS _ _ (PySem.Stmt.Assign [PySem.Expr.Name "shots" _] (PySem.Expr.List _ _) _) _ _); refine Dx.ds_own (by wtm_at "dx.nd") rfl (by wtm_at "dx.loc") (.inl rfl) rfl ?_)
  | ((with_reducible refine Dx.ds_set ?_ ?_ ?_ ?_ ?_ ?_); (next => wtm_at "dx.nd"); (next => rfl); (next => wtm_at "dx.loc"); (next => exact .inl rfl); (next => rfl))
  | ((with_reducible show Dx.DS _ _ (PySem.Stmt.Assign [PySem.Expr.Tuple [_, _] _ _] (PySem.Expr.Tuple [_, _] _ _) _) _ _); refine Dx.ds_par rfl (by wtm_at "dx.nd") rfl rfl (by decide) rfl rfl rfl rfl ?_)
  | ((with_reducible show Dx.DS _ _ (PySem.Stmt.Assign [PySem.Expr.Tuple [_, _, _] _ _] (PySem.Expr.Tuple [_, _, _] _ _) _) _ _); refine Dx.ds_par3 rfl (by wtm_at "dx.nd") rfl rfl rfl (by decide) (by decide) (by decide) rfl rfl rfl rfl rfl ?_)
  | ((with_reducible refine Dx.ds_asg ?_ ?_ ?_ ?_); (next => rfl); (next => rfl); (next => rfl))
  | ((with_reducible show Dx.DSs _ _ _ _ _); refine Dx.ds_cons ?_))
local macro_rules | `(tactic| wtm_at "dx.g") => `(tactic| first
  | wtm_at "dx.n"
  | ((with_reducible refine Dx.dg_name ?_ ?_ ?_ ?_ ?_); (next => wtm_at "dx.nd"); (next => rfl); (next => wtm_at "dx.loc"); (next => exact .inl rfl))
  | ((with_reducible show Dx.DG _ _ (PySem.Expr.Tuple _ _ _) _ _ _); refine Dx.dg_tup rfl rfl rfl rfl ?_)
  | with_reducible refine Dx.dgs_nil ?_
  | ((with_reducible refine Dx.dgs_cons ?_ ?_); (next => rfl))
  | ((with_reducible show Dx.DG _ _ (PySem.Expr.Subscript (PySem.Expr.Name _ _) _ _) _ _ _); refine Dx.dg_sub (by wtm_at "dx.nd") (fun _ => rfl) rfl (by wtm_at "dx.vis") (by decide) (by decide) ?_))
-- values
local macro_rules | `(tactic| wtm_at "dx.vb") => `(tactic| first
  | with_reducible refine Dx.do_add ?_
  | with_reducible refine Dx.do_sub ?_
  | with_reducible refine Dx.do_orN ?_
  | with_reducible refine Dx.do_andN ?_
  | with_reducible refine Dx.do_andOne ?_
  | with_reducible refine Dx.do_xorN ?_
  | with_reducible refine Dx.do_shrN ?_
  | ((with_reducible refine Dx.do_oneShl ?_ ?_); (next => omega))
  | ((with_reducible refine Dx.do_mod ?_ ?_); (next => first | decide | assumption | omega))
  | ((with_reducible refine Dx.do_pow ?_ ?_); (next => decide))
  | ((with_reducible refine Dx.do_mul ?_ ?_); (next => first | exact Sx.mulL (by omega) (by omega) | exact Sx.mulR (by omega) (by omega)))
  | ((with_reducible refine Dx.do_fdiv ?_ ?_ ?_); (next => first | decide | assumption | omega); (next => first | decide | exact Dx.small8999 (by omega)))
  | ((with_reducible refine Dx.do_catL ?_ ?_); (next => wtm_at "size"))
  | ((with_reducible refine Dx.do_catT ?_ ?_); (next => wtm_at "size")))
local macro_rules | `(tactic| wtm_at "dx.vc") => `(tactic| first
  | with_reducible refine Dx.dc_lt ?_
  | with_reducible refine Dx.dc_le ?_
  | with_reducible refine Dx.dc_gt ?_
  | with_reducible refine Dx.dc_ge ?_
  | with_reducible refine Dx.dc_eqI ?_
  | with_reducible refine Dx.dc_neI ?_
  | with_reducible refine Dx.dc_eqS ?_
  | with_reducible refine Dx.dc_neS ?_
  | with_reducible refine Dx.dc_eqB ?_
  | with_reducible refine Dx.dc_neB ?_
  | with_reducible refine Dx.dc_isN ?_
  | with_reducible refine Dx.dc_notN ?_)
local macro_rules | `(tactic| wtm_at "dx.vf") => `(tactic| first
  | with_reducible refine Dx.dc_int1 ?_
  | with_reducible refine Dx.dc_abs ?_
  | ((with_reducible refine Dx.dc_divmod ?_ ?_); (next => first | decide | (constructor <;> omega)))
  | ((with_reducible refine Dx.dc_max2 ?_ ?_); (next => rfl))
  | ((with_reducible refine Dx.dc_min2 ?_ ?_); (next => rfl))
  | with_reducible refine Dx.dc_lenT ?_
  | with_reducible refine Dx.dc_lenL ?_
  | with_reducible refine Dx.dc_lenR ?_
  | with_reducible refine Dx.dc_tupL ?_
  | with_reducible refine Dx.dc_tupT ?_
  | with_reducible refine Dx.dc_lstL ?_
  | with_reducible refine Dx.dc_lstT ?_)
local macro_rules | `(tactic| wtm_at "dx.vr") => `(tactic| first
  | with_reducible refine Dx.du_neg ?_
  | with_reducible refine Dx.dtr_nat ?_
  | with_reducible refine Dx.dtr_tup ?_
  | with_reducible refine Dx.dtr_lst ?_
  | with_reducible refine Dx.dtr_non ?_
  | with_reducible refine Dx.du_inv ?_
  | with_reducible refine Dx.dtr_bl ?_
  | with_reducible refine Dx.dtr_int ?_
  | with_reducible refine Dx.dsl_lst ?_
  | with_reducible refine Dx.dsl_scr ?_
  | with_reducible refine Dx.dsl_tup ?_
  | ((with_reducible refine Dx.dix_tup ?_ ?_); (next => rfl))
  | ((with_reducible refine Dx.dix_lst ?_ ?_); (next => rfl)))
-- left-overs
local macro_rules | `(tactic| wtm_at "dx.x") => `(tactic| first
  | (with_reducible refine L2.iteT ?_)
  | (with_reducible refine Sx.brNt ?_)
  | (with_reducible refine Sx.brNf ?_)
  | (with_reducible refine L2.iteF ?_)
  | ((with_reducible show Dx.DP _ _ none _ _); refine Dx.dp_none ?_)
  | ((with_reducible show Dx.DP _ _ (some _) _ _); refine Dx.dp_some ?_)
  | ((with_reducible show Dx.DB _ _ _ _ _ _); unfold Dx.DB)
  | (with_reducible refine Dx.exI ?_)
  | (with_reducible refine Dx.exB ?_)
  | ((with_reducible show ∃ ds, Dx.agV _ = some ds ∧ List.length ds ≤ _ ∧ _); refine Dx.exLen rfl (by wtm_at "size") ?_)
  | ((with_reducible show ∃ ds, Dx.agV _ = some ds ∧ _); refine Dx.exVals rfl ?_)
  | ((with_reducible show ∃ ds, Dx.D.own _ = Dx.D.own ds ∧ _); refine ⟨_, rfl, ?_⟩)
  | ((with_reducible show ∃ u v, Dx.agV _ = some [u, v] ∧ _); refine Dx.exPar rfl ?_)
  | ((with_reducible show ∃ u v w, Dx.agV _ = some [u, v, w] ∧ _); refine Dx.exPar3 rfl ?_)
  | ((with_reducible show ∃ _ d1 ds _, _ ∧ _ ∧ Dx.D.items d1 = some ds ∧ _); refine Dx.exIx rfl rfl rfl ?_)
  | ((with_reducible show ∃ _ _ d1 ds, _ ∧ _ ∧ Dx.D.mutIs d1 = some ds ∧ _); refine Dx.exSub rfl rfl rfl ?_)
  | ((with_reducible show ∃ d1 ds, _ ∧ Dx.D.mutIs d1 = some ds ∧ _); refine Dx.exApp rfl rfl (by wtm_at "size") ?_))
local macro_rules | `(tactic| wtm_at "dx.f") => `(tactic| ((with_reducible show Dx.DE _ _ (PySem.Expr.Call (PySem.Expr.Name _ _) (_ :: _) [] _) _ _); refine Dx.d_call (by assumption) (by wtm_at "room") rfl (by decide) rfl rfl ?_))
local macro_rules | `(tactic| wtm_at "dx.bnd") => `(tactic| first | ((with_reducible show Dx.Bnd _ [] _ _); exact .nil) | ((with_reducible show Dx.Bnd _ (Dx.Ag.d _ :: _) _ _); exact .d (by wtm_at "dx.bnd")) | ((with_reducible show Dx.Bnd _ (Dx.Ag.len _ :: _) _ _); first | exact .lend rfl rfl (by wtm_at "dx.bnd") | exact .plain rfl rfl (by wtm_at "dx.bnd")))
local macro_rules | `(tactic| wtm_at "dx.blt") => `(tactic| first
  | ((with_reducible show Dx.DE _ _ (PySem.Expr.Call (PySem.Expr.Name "len" _) _ [] _) _ _); refine Dx.d_callB (id := "len") rfl (Sx.Blt.len (by assumption)) (by decide +kernel) (by decide) (by decide) rfl rfl ?_)
  | ((with_reducible show Dx.DE _ _ (PySem.Expr.Call (PySem.Expr.Name "int" _) _ [] _) _ _); refine Dx.d_callTy (T := "int") rfl (Sx.Blt.int (by assumption)) (by decide +kernel) (by decide) (by decide) rfl rfl ?_)
  | ((with_reducible show Dx.DE _ _ (PySem.Expr.Call (PySem.Expr.Name "abs" _) _ [] _) _ _); refine Dx.d_callB (id := "abs") rfl (Sx.Blt.abs (by assumption)) (by decide +kernel) (by decide) (by decide) rfl rfl ?_)
  | ((with_reducible show Dx.DE _ _ (PySem.Expr.Call (PySem.Expr.Name "tuple" _) _ [] _) _ _); refine Dx.d_callTy (T := "tuple") rfl (Sx.Blt.tuple (by assumption)) (by decide +kernel) (by decide) (by decide) rfl rfl ?_)
  | ((with_reducible show Dx.DE _ _ (PySem.Expr.Call (PySem.Expr.Name "list" _) _ [] _) _ _); refine Dx.d_callTy (T := "list") rfl (Sx.Blt.list (by assumption)) (by decide +kernel) (by decide) (by decide) rfl rfl ?_)
  | ((with_reducible show Dx.DE _ _ (PySem.Expr.Call (PySem.Expr.Name "set" _) _ [] _) _ _); refine Dx.d_callTy (T := "set") rfl (Sx.Blt.set (by assumption)) (by decide +kernel) (by decide) (by decide) rfl rfl ?_)
  | ((with_reducible show Dx.DE _ _ (PySem.Expr.Call (PySem.Expr.Name "sorted" _) _ [] _) _ _); refine Dx.d_callB (id := "sorted") rfl (Sx.Blt.sorted (by assumption)) (by decide +kernel) (by decide) (by decide) rfl rfl ?_)
  | ((with_reducible show Dx.DE _ _ (PySem.Expr.Call (PySem.Expr.Name "all" _) _ [] _) _ _); refine Dx.d_callB (id := "all") rfl (Sx.Blt.all (by assumption)) (by decide +kernel) (by decide) (by decide) rfl rfl ?_)
  | ((with_reducible show Dx.DE _ _ (PySem.Expr.Call (PySem.Expr.Name "divmod" _) _ [] _) _ _); refine Dx.d_callB (id := "divmod") rfl (Sx.Blt.divmod (by assumption)) (by decide +kernel) (by decide) (by decide) rfl rfl ?_)
  | ((with_reducible show Dx.DE _ _ (PySem.Expr.Call (PySem.Expr.Name "isinstance" _) _ [] _) _ _); refine Dx.d_callB (id := "isinstance") rfl (Sx.Blt.isinstance (by assumption)) (by decide +kernel) (by decide) (by decide) rfl rfl ?_)
  | ((with_reducible show Dx.DE _ _ (PySem.Expr.Call (PySem.Expr.Name "str" _) _ [] _) _ _); refine Dx.d_callTy (T := "str") rfl (Sx.Blt.str (by assumption)) (by decide +kernel) (by decide) (by decide) rfl rfl ?_)
  | ((with_reducible show Dx.DE _ _ (PySem.Expr.Call (PySem.Expr.Name "repr" _) _ [] _) _ _); refine Dx.d_callB (id := "repr") rfl (Sx.Blt.repr (by assumption)) (by decide +kernel) (by decide) (by decide) rfl rfl ?_)
  | ((with_reducible show Dx.DE _ _ (PySem.Expr.Call (PySem.Expr.Name "bool" _) _ [] _) _ _); refine Dx.d_callTy (T := "bool") rfl (Sx.Blt.bool (by assumption)) (by decide +kernel) (by decide) (by decide) rfl rfl ?_)
  | ((with_reducible show Dx.DE _ _ (PySem.Expr.Call (PySem.Expr.Name "min" _) _ [] _) _ _); refine Dx.d_callB (id := "min") rfl (Sx.Blt.min (by assumption)) (by decide +kernel) (by decide) (by decide) rfl rfl ?_)
  | ((with_reducible show Dx.DE _ _ (PySem.Expr.Call (PySem.Expr.Name "max" _) _ [] _) _ _); refine Dx.d_callB (id := "max") rfl (Sx.Blt.max (by assumption)) (by decide +kernel) (by decide) (by decide) rfl rfl ?_)
  | ((with_reducible show Dx.DE _ _ (PySem.Expr.Call (PySem.Expr.Name "sum" _) _ [] _) _ _); refine Dx.d_callB (id := "sum") rfl (Sx.Blt.sum (by assumption)) (by decide +kernel) (by decide) (by decide) rfl rfl ?_))
local macro_rules | `(tactic| wtm_at "dx1") => `(tactic| first
  | ((with_reducible show Dx.DE _ _ _ _ _); wtm_at "dx.e")
  | ((with_reducible show Dx.DO _ _ (PySem.binaryOp _) _ _ _ _); wtm_at "dx.vb")
  | ((with_reducible show Dx.DO _ _ (PySem.compareOp _) _ _ _ _); wtm_at "dx.vc")
  | ((with_reducible show Dx.DC _ _ _ _ _ _); wtm_at "dx.vf")
  | ((with_reducible show Dx.DA _ _ _ _ _); wtm_at "dx.a")
  | ((with_reducible show Dx.DSs _ _ _ _ _); wtm_at "dx.s")
  | ((with_reducible show Dx.DS _ _ _ _ _); wtm_at "dx.s")
  | ((with_reducible show Dx.DT _ _ _ _ _); wtm_at "dx.t")
  | ((with_reducible show Dx.DW _ _ _ _ _); wtm_at "dx.t")
  | ((with_reducible show Dx.DG _ _ _ _ _ _); wtm_at "dx.g")
  | ((with_reducible show Dx.DGs _ _ _ _ _ _); wtm_at "dx.g")
  | ((with_reducible show Dx.DIx _ _ _ _ _ _); wtm_at "dx.vr")
  | ((with_reducible show Dx.DTru _ _ _ _ _); wtm_at "dx.vr")
  | ((with_reducible show Dx.DU _ _ _ _ _ _); wtm_at "dx.vr")
  | ((with_reducible show Dx.DSl _ _ _ _ _ _ _); wtm_at "dx.vr")
  | wtm_at "dx.x")
local macro_rules | `(tactic| wtm_at "dx") => `(tactic| (repeat wtm_at "dx1"))
local macro_rules | `(tactic| wtm_at "for") => `(tactic| refine Dx.ds_for (fun _ => rfl) PySem.PassesOwn.never rfl ?_)
local macro_rules | `(tactic| wtm_at "di.R1") => `(tactic| refine Dx.di_R1 (by assumption) rfl rfl ?_)
local macro_rules | `(tactic| wtm_at "di.R2") => `(tactic| refine Dx.di_R2 (by assumption) rfl rfl rfl ?_)
local macro_rules | `(tactic| wtm_at "di.L") => `(tactic| refine Dx.di_L ?_)
local macro_rules | `(tactic| wtm_at "di.T") => `(tactic| refine Dx.di_T ?_)
local macro_rules | `(tactic| wtm_at "di.ET") => `(tactic| refine Dx.di_ET (by assumption) rfl rfl ?_)
local macro_rules | `(tactic| wtm_at "lc") => `(tactic| first | refine Dx.d_lc1 (n := 0) rfl rfl (by wtm_at "dx.nd") (by rfl) (by decide) (fun _ => rfl) ?_ | refine Dx.d_lc1 (n := 1) rfl rfl (by wtm_at "dx.nd") (by rfl) (by decide) (fun _ => rfl) ?_ | refine Dx.d_lc1 (n := 2) rfl rfl (by wtm_at "dx.nd") (by rfl) (by decide) (fun _ => rfl) ?_ | refine Dx.d_lc1 (n := 3) rfl rfl (by wtm_at "dx.nd") (by rfl) (by decide) (fun _ => rfl) ?_ | refine Dx.d_lc1 (n := 4) rfl rfl (by wtm_at "dx.nd") (by rfl) (by decide) (fun _ => rfl) ?_ | refine Dx.d_lc1 (n := 5) rfl rfl (by wtm_at "dx.nd") (by rfl) (by decide) (fun _ => rfl) ?_ | refine Dx.d_lc1 (n := 6) rfl rfl (by wtm_at "dx.nd") (by rfl) (by decide) (fun _ => rfl) ?_ | refine Dx.d_lc1 (n := 7) rfl rfl (by wtm_at "dx.nd") (by rfl) (by decide) (fun _ => rfl) ?_ | refine Dx.d_lc1 (n := 8) rfl rfl (by wtm_at "dx.nd") (by rfl) (by decide) (fun _ => rfl) ?_ | refine Dx.d_lc1 (n := 9) rfl rfl (by wtm_at "dx.nd") (by rfl) (by decide) (fun _ => rfl) ?_ | refine Dx.d_lc1 (n := 10) rfl rfl (by wtm_at "dx.nd") (by rfl) (by decide) (fun _ => rfl) ?_ | refine Dx.d_lc1 (n := 11) rfl rfl (by wtm_at "dx.nd") (by rfl) (by decide) (fun _ => rfl) ?_ | refine Dx.d_lc1 (n := 12) rfl rfl (by wtm_at "dx.nd") (by rfl) (by decide) (fun _ => rfl) ?_ | refine Dx.d_lc1 (n := 13) rfl rfl (by wtm_at "dx.nd") (by rfl) (by decide) (fun _ => rfl) ?_ | refine Dx.d_lc1 (n := 14) rfl rfl (by wtm_at "dx.nd") (by rfl) (by decide) (fun _ => rfl) ?_ | refine Dx.d_lc1 (n := 15) rfl rfl (by wtm_at "dx.nd") (by rfl) (by decide) (fun _ => rfl) ?_ | refine Dx.d_lc1 (n := 16) rfl rfl (by wtm_at "dx.nd") (by rfl) (by decide) (fun _ => rfl) ?_ | refine Dx.d_lc1 (n := 17) rfl rfl (by wtm_at "dx.nd") (by rfl) (by decide) (fun _ => rfl) ?_ | refine Dx.d_lc1 (n := 18) rfl rfl (by wtm_at "dx.nd") (by rfl) (by decide) (fun _ => rfl) ?_ | refine Dx.d_lc1 (n := 19) rfl rfl (by wtm_at "dx.nd") (by rfl) (by decide) (fun _ => rfl) ?_ | refine Dx.d_lc1 (n := 20) rfl rfl (by wtm_at "dx.nd") (by rfl) (by decide) (fun _ => rfl) ?_ | refine Dx.d_lc1 (n := 21) rfl rfl (by wtm_at "dx.nd") (by rfl) (by decide) (fun _ => rfl) ?_ | refine Dx.d_lc1 (n := 22) rfl rfl (by wtm_at "dx.nd") (by rfl) (by decide) (fun _ => rfl) ?_ | refine Dx.d_lc1 (n := 23) rfl rfl (by wtm_at "dx.nd") (by rfl) (by decide) (fun _ => rfl) ?_)
local macro_rules | `(tactic| wtm_at "call") => `(tactic| refine ⟨_, _, (by wtm_at "dx.bnd"), ?_⟩)
local macro_rules | `(tactic| wtm_at "turn0") => `(tactic| refine Dx.turn0 (ρ' := ?_) (by wtm_at "dx.nd") rfl (fun _ _ _ _ _ => (by wtm_at "dx.loc")) (fun _ _ _ _ _ => (by wtm_at "dx.loc")) (by wtm_at "dx.rho") (L2.iteT fun s0 H0 C0 cl0 fp0 => ?_))
local macro_rules | `(tactic| wtm_at "turn1") => `(tactic| refine Dx.turn1 (ρ' := ?_) (by wtm_at "dx.nd") rfl (fun _ _ _ _ _ => (by wtm_at "dx.loc")) (fun _ _ _ _ _ => (by wtm_at "dx.loc")) (by wtm_at "dx.rho") (fun s0 H0 C0 cl0 fp0 => ?_))
local macro_rules | `(tactic| wtm_at "nv") => `(tactic| (intro _ _ _ _ _; wtm_at "dx.loc"))
local macro_rules | `(tactic| wtm_at "hours") => `(tactic| (refine Dx.d_prop (cn := "Hours") (by assumption) (Pk.Env5.pH (by assumption)) (Pk.Txt.cl (by assumption)) (by wtm_at "room") rfl ?_))
local macro_rules | `(tactic| wtm_at "hx.b") => `(tactic| first
  | ((with_reducible show Dx.DO _ _ (PySem.binaryOp .Add) (Pk.hoursD _ _) (Pk.hoursD _ _) _ _); refine Pk.h_add (by assumption) (by wtm_at "room") (by assumption) (by assumption) (fun _ => ?_))
  | ((with_reducible show Dx.DO _ _ (PySem.binaryOp .Sub) (Pk.hoursD _ _) (Pk.hoursD _ _) _ _); refine Pk.h_sub (by assumption) (by wtm_at "room") (by assumption) (by assumption) (fun _ => ?_))
  | ((with_reducible show Dx.DO _ _ (PySem.binaryOp .BitOr) (Pk.hoursD _ _) (Pk.hoursD _ _) _ _); refine Pk.h_or (by assumption) (by wtm_at "room") (by assumption) (by assumption) (fun _ => ?_))
  | ((with_reducible show Dx.DO _ _ (PySem.binaryOp .BitAnd) (Pk.hoursD _ _) (Pk.hoursD _ _) _ _); refine Pk.h_and (by assumption) (by wtm_at "room") (by assumption) (by assumption) (fun _ => ?_))
  | ((with_reducible show Dx.DO _ _ (PySem.binaryOp .Mult) (Pk.hoursD _ _) (Dx.D.int _) _ _); refine Pk.h_mul (by assumption) (by wtm_at "room") (by assumption) (fun _ => ?_))
  | ((with_reducible show Dx.DU _ _ (PySem.unaryOp .USub) (Pk.hoursD _ _) _ _); refine Pk.h_neg (by assumption) (by wtm_at "room") (by assumption) (fun _ => ?_))
  | ((with_reducible show Dx.DU _ _ (PySem.unaryOp .Invert) (Pk.hoursD _ _) _ _); refine Pk.h_inv (by assumption) (by wtm_at "room") (by assumption) (fun _ => ?_)))
local macro_rules | `(tactic| wtm_at "hx.e") => `(tactic| first
  | ((with_reducible show Dx.DE _ _ (PySem.Expr.Attribute _ "hours" _) _ _); refine Pk.h_hours (by assumption) (by wtm_at "room") rfl ?_)
  | ((with_reducible show Dx.DE _ _ (PySem.Expr.Attribute _ "clock" _) _ _); refine Pk.h_clock (by assumption) (by wtm_at "room") rfl ?_)
  | ((with_reducible show Dx.DE _ _ (PySem.Expr.Call (PySem.Expr.Attribute _ "moved" _) [_] [] _) _ _); refine Pk.h_moved (by assumption) (by wtm_at "room") rfl rfl rfl ?_)
  | ((with_reducible show Dx.DE _ _ (PySem.Expr.Call (PySem.Expr.Attribute _ "moved" _) [] [_] _) _ _); refine Pk.h_movedK (by assumption) (by wtm_at "room") rfl rfl rfl rfl ?_)
  | ((with_reducible show Dx.DE _ _ (PySem.Expr.Call (PySem.Expr.Name "Hours" _) (_ :: _) [] _) _ _); refine Pk.h_make (by assumption) (by wtm_at "room") rfl rfl rfl ?_))
local macro_rules | `(tactic| wtm_at "hx.x") => `(tactic| first
  | ((with_reducible show Pk.Valid _ _ → _); intro _)
  | ((with_reducible show ∃ n ra, _ = Pk.hoursD n ra ∧ _); refine ⟨_, _, rfl, (by assumption), ?_⟩)
  | ((with_reducible show ∃ n ra, Dx.agV _ = some [_, Dx.D.tup (Pk.nats ra)] ∧ _); refine ⟨_, _, rfl, (by assumption), ?_⟩))
local macro_rules | `(tactic| wtm_at "hx") => `(tactic| (repeat first | wtm_at "dx1" | wtm_at "hx.b" | wtm_at "hx.e" | wtm_at "hx.x"))
namespace Pk
open PySem L2 Sx Mx Dx
section
variable {P : Program} {w : World} {K : PySem.W.Frag} {mg : Str → Option Value} {base : Heap} {C : Addr} {cl : Str → Option Addr}
def spLaw : DSp := fun ds Q => ∃ ns : List Int, ds = [.scr (ns.map D.int)] ∧ ns.length ≤ 63 ∧ Q (.bl true) []
theorem rng_mem {lo : Int} {n : Nat} {d : D} (h : d ∈ rng lo n) : ∃ k : Nat, k < n ∧ d = .int (lo + k) := by
  unfold rng at h
  obtain ⟨k, hk, e⟩ := List.mem_map.mp h
  exact ⟨k, List.mem_range.mp hk, e.symm⟩
theorem map_true (xs : List D) : (xs.map fun _ => D.bl true) = (xs.map fun _ => true).map D.bl := by rw [List.map_map]; rfl
theorem all_true (xs : List D) : (xs.map fun _ => true).all id = true := by simp
theorem scLaw : FnScope ["script", "spot"] ["script"] (defScope (top 41)) := ⟨rfl, rfl, rfl, by decide +kernel, rfl, by decide +kernel, by decide +kernel⟩
theorem ok_law {f : Addr} {fd : FuncData} (F : Fun K "law" "law" (top 41) f fd) (B : Blt mg) (c1 : Callable P w K mg base "_law_purse" 1 ["script", "spot"] (toSp K w cl spPurse)) (c2 : Callable P w K mg base "_law_right" 11 ["purse"] (toSp K w cl spRight)) : FnOk P w K mg base CX0 12 f fd ["script"] (toSp K w cl spLaw) := by
  refine dfn F scLaw (fun ds Q h => ?_) (fun cdv A outer s H E ds O ba Q hr h => ?_)
  · obtain ⟨ns, rfl, _⟩ := h
    rfl
  · obtain ⟨ns, rfl, hn, k⟩ := h
    have nd := scLaw.nd
    wtm_at "dx"
    wtm_at "lc"
    wtm_at "di.R1"
    wtm_at "dx"
    generalize hj : (if (2 : Int) < _ then _ else (2 : Int)) = j
    have hj4 : 2 ≤ j ∧ j ≤ 4 := by
      subst hj
      repeat' split
      all_goals omega
    refine ⟨by omega, fun hs D' => dlc_map (fun _ => .bl true) nd rfl (by wtm_at "nv") (by wtm_at "nv") rfl (by rw [rng_len]; omega) (fun d hd Q q s0 H0 C0 cl0 fp0 => ?_) ?_⟩
    · obtain ⟨m, hm, rfl⟩ := rng_mem hd
      refine d_call2 c2 c1 hr (by wtm_at "room") rfl rfl (by decide) (by decide) rfl rfl rfl rfl ?_
      wtm_at "dx"
      wtm_at "call"
      exact ⟨ns, _, rfl, hn, by omega, by omega, fun ps hps => ⟨ps, rfl, ps, rfl, hps, fun outs => q⟩⟩
    · wtm_at "dx"
      rw [show ((rng 0 j.toNat).map fun _ => (D.bl true).fz) = ((rng 0 j.toNat).map fun _ => true).map D.bl from map_true _]
      refine dc_all rfl ?_
      rw [all_true]
      exact k
/-- what the end asks for -/
def spLawO (K : PySem.W.Frag) : Sp := fun vs H Q _ => ∃ (a : Addr) (ns : List Int), vs = [.ref a] ∧ SqL K H a (ns.map V.int) ∧ ns.length ≤ 63 ∧ ∀ H', Q (.bl true) H'
theorem w_law : ∀ vs H Q E, spLawO K vs H Q E → toSp K w cl spLaw vs H Q E := by
  rintro vs H Q E ⟨a, ns, rfl, h, hn, k⟩
  refine ⟨[.scr (ns.map D.int)], fun _ => False, none, fun d _ => d = .bl true, fun _ h => h.elim, .rep ?_ .nil, ⟨ns, rfl, hn, rfl⟩, fun d outs e v H' t R => ?_⟩
  · rcases h with h | h
    · exact .scr h (fun q => q) (RepL.ofInts ns)
    · exact .scrK (fun _ => .inr h) (RepL.ofInts ns)
  · subst e
    cases t with
    | none => rw [(R.res rfl).blV]; exact k H'
    | some c => obtain ⟨_, _, _, e, _⟩ := R.new c rfl; cases e
end
end Pk

end
section -- LiA
set_option maxRecDepth 100000
set_option maxHeartbeats 16000000
namespace Pk
open PySem L2 Sx Mx Dx
theorem kb1 {K : PySem.W.Frag} {fd : FuncData} {ps : List Str} {kw : Str} (hp : ps.length = 2) (h : ∀ a b : Value, bindArgs fd ⟨[a], [(kw, b)]⟩ = pure (ps.zip [a, b])) : KBinds K fd ps [kw] kg1 kg1 where
  to := fun s us ws X l => by
    match us, ws, l with
    | [a], [b], _ => exact .of_eq (h a b)
    | [], _, l => rw [hp] at l; cases l
    | [_], [], l => rw [hp] at l; cases l
    | [_], _ :: _ :: _, l => rw [hp] at l; cases l
    | _ :: _ :: _, _, l => rw [hp] at l; cases l
  rel := fun r r2 => by
    cases r with
    | nil => exact .nil
    | cons r1 rt =>
      cases rt with
      | nil =>
        cases r2 with
        | nil => exact .nil
        | cons r3 rt2 =>
          cases rt2 with
          | nil => exact .cons r1 (.cons r3 .nil)
          | cons _ _ => exact .nil
      | cons _ _ => exact .nil
theorem FnOk.imp' {P : Program} {w : World} {K : PySem.W.Frag} {mg : Str → Option Value} {base : Heap} {k : Nat} {f : Addr} {fd : FuncData} {ps : List Str} {sp sp' : Sp} (F : FnOk P w K mg base CX0 k f fd ps sp) (h : ∀ vs H Q E, sp' vs H Q E → sp vs H Q E) : FnOk P w K mg base CX0 k f fd ps sp' := F.imp h
theorem all_mk {l : PySem.W.OpenLaw} {w : World} {K : PySem.W.Frag} {h : Heap} {mg : Str → Option Value} {fa : Addr} (X : K.In h) (G : h.Ns mainGlobals mg) (hfa : mg "law" = some (.ref fa))
    {C f1 f2 f3 f4 f5 f6 f7 f8 f9 f10 f11 f12 f13 f14 f15 f16 f17 f18 f19 f20 f21 f22 f23 f24 f25 f26 f27 f28 f29 f30 f31 f32 f33 T0 a0 p16 p17 : Addr} {od1 an1 od2 an2 od3 an3 od4 an4 od5 an5 od6 an6 od7 an7 od8 an8 od9 an9 od10 an10 od11 an11 od12 an12 od13 an13 od14 an14 od15 an15 od16 an16 od17 an17 od18 an18 od19 an19 od20 an20 od21 an21 od22 an22 od23 an23 od24 an24 od25 an25 od26 an26 od27 an27 od28 an28 od29 an29 od30 an30 od31 an31 od32 an32 od33 an33 odD : Option Addr} {sl1 sl2 sl3 sl4 sl5 sl6 sl7 sl8 sl9 sl10 sl11 sl12 sl13 sl14 sl15 sl16 sl17 sl18 sl19 sl20 sl21 sl22 sl23 sl24 sl25 sl26 sl27 sl28 sl29 sl30 sl31 sl32 sl33 slD : Array (Option Value)} {oc1 kV1 dc1 pm1 cd1 ct1 oc2 kV2 dc2 pm2 cd2 ct2 oc3 kV3 dc3 pm3 cd3 ct3 oc4 kV4 dc4 pm4 cd4 ct4 oc5 kV5 dc5 pm5 cd5 ct5 oc6 kV6 dc6 pm6 cd6 ct6 oc7 kV7 dc7 pm7 cd7 ct7 oc8 kV8 dc8 pm8 cd8 ct8 oc9 kV9 dc9 pm9 cd9 ct9 oc10 kV10 dc10 pm10 cd10 ct10 oc11 kV11 dc11 pm11 cd11 ct11 oc12 kV12 dc12 pm12 cd12 ct12 oc13 kV13 dc13 pm13 cd13 ct13 oc14 kV14 dc14 pm14 cd14 ct14 oc15 kV15 dc15 pm15 cd15 ct15 oc16 kV16 dc16 pm16 cd16 ct16 oc17 kV17 dc17 pm17 cd17 ct17 oc18 kV18 dc18 pm18 cd18 ct18 oc19 kV19 dc19 pm19 cd19 ct19 oc20 kV20 dc20 pm20 cd20 ct20 oc21 kV21 dc21 pm21 cd21 ct21 oc22 kV22 dc22 pm22 cd22 ct22 oc23 kV23 dc23 pm23 cd23 ct23 oc24 kV24 dc24 pm24 cd24 ct24 oc25 kV25 dc25 pm25 cd25 ct25 oc26 kV26 dc26 pm26 cd26 ct26 oc27 kV27 dc27 pm27 cd27 ct27 oc28 kV28 dc28 pm28 cd28 ct28 oc29 kV29 dc29 pm29 cd29 ct29 oc30 kV30 dc30 pm30 cd30 ct30 oc31 kV31 dc31 pm31 cd31 ct31 oc32 kV32 dc32 pm32 cd32 ct32 oc33 kV33 dc33 pm33 cd33 ct33 ocD : Value} {rest16 rest17 : List Value} {nD : Nat} {tk : Tok} {oim oir : Option Value}
    (aC : PySem.W.nsIn K mainGlobals "Hours" = some (some (.ref C)))
    (a1 : PySem.W.nsIn K mainGlobals "is_integer" = some (some (.ref f1)))
    (l1 : K.lookup f1 = some ⟨oc1, od1, .func (PySem.W.fnOf "is_integer" "is_integer" (defArgs (top 13)) (defBody (top 13)) (defScope (top 13)) .none kV1 dc1 pm1 an1 cd1 ct1), sl1⟩)
    (c1 : PySem.W.codeIn K cd1 "is_integer" = true)
    (k1 : PySem.W.keepIn K (.ref f1) = true)
    (a2 : PySem.W.nsIn K mainGlobals "is_hour" = some (some (.ref f2)))
    (l2 : K.lookup f2 = some ⟨oc2, od2, .func (PySem.W.fnOf "is_hour" "is_hour" (defArgs (top 14)) (defBody (top 14)) (defScope (top 14)) .none kV2 dc2 pm2 an2 cd2 ct2), sl2⟩)
    (c2 : PySem.W.codeIn K cd2 "is_hour" = true)
    (k2 : PySem.W.keepIn K (.ref f2) = true)
    (a3 : PySem.W.nsIn K mainGlobals "wrong_index" = some (some (.ref f3)))
    (l3 : K.lookup f3 = some ⟨oc3, od3, .func (PySem.W.fnOf "wrong_index" "wrong_index" (defArgs (top 15)) (defBody (top 15)) (defScope (top 15)) .none kV3 dc3 pm3 an3 cd3 ct3), sl3⟩)
    (c3 : PySem.W.codeIn K cd3 "wrong_index" = true)
    (k3 : PySem.W.keepIn K (.ref f3) = true)
    (a4 : PySem.W.nsIn K mainGlobals "check_clock" = some (some (.ref f4)))
    (l4 : K.lookup f4 = some ⟨oc4, od4, .func (PySem.W.fnOf "check_clock" "check_clock" (defArgs (top 17)) (defBody (top 17)) (defScope (top 17)) .none kV4 dc4 pm4 an4 cd4 ct4), sl4⟩)
    (c4 : PySem.W.codeIn K cd4 "check_clock" = true)
    (k4 : PySem.W.keepIn K (.ref f4) = true)
    (a5 : PySem.W.nsIn K mainGlobals "check_hours" = some (some (.ref f5)))
    (l5 : K.lookup f5 = some ⟨oc5, od5, .func (PySem.W.fnOf "check_hours" "check_hours" (defArgs (top 19)) (defBody (top 19)) (defScope (top 19)) .none kV5 dc5 pm5 an5 cd5 ct5), sl5⟩)
    (c5 : PySem.W.codeIn K cd5 "check_hours" = true)
    (k5 : PySem.W.keepIn K (.ref f5) = true)
    (a6 : PySem.W.nsIn K mainGlobals "check_integer" = some (some (.ref f6)))
    (l6 : K.lookup f6 = some ⟨oc6, od6, .func (PySem.W.fnOf "check_integer" "check_integer" (defArgs (top 16)) (defBody (top 16)) (defScope (top 16)) .none kV6 dc6 pm6 an6 cd6 ct6), sl6⟩)
    (c6 : PySem.W.codeIn K cd6 "check_integer" = true)
    (k6 : PySem.W.keepIn K (.ref f6) = true)
    (a7 : PySem.W.nsIn K mainGlobals "mask_of" = some (some (.ref f7)))
    (l7 : K.lookup f7 = some ⟨oc7, od7, .func (PySem.W.fnOf "mask_of" "mask_of" (defArgs (top 22)) (defBody (top 22)) (defScope (top 22)) .none kV7 dc7 pm7 an7 cd7 ct7), sl7⟩)
    (c7 : PySem.W.codeIn K cd7 "mask_of" = true)
    (k7 : PySem.W.keepIn K (.ref f7) = true)
    (a8 : PySem.W.nsIn K mainGlobals "hours_of" = some (some (.ref f8)))
    (l8 : K.lookup f8 = some ⟨oc8, od8, .func (PySem.W.fnOf "hours_of" "hours_of" (defArgs (top 23)) (defBody (top 23)) (defScope (top 23)) .none kV8 dc8 pm8 an8 cd8 ct8), sl8⟩)
    (c8 : PySem.W.codeIn K cd8 "hours_of" = true)
    (k8 : PySem.W.keepIn K (.ref f8) = true)
    (a9 : PySem.W.nsIn K mainGlobals "whole_mask" = some (some (.ref f9)))
    (l9 : K.lookup f9 = some ⟨oc9, od9, .func (PySem.W.fnOf "whole_mask" "whole_mask" (defArgs (top 24)) (defBody (top 24)) (defScope (top 24)) .none kV9 dc9 pm9 an9 cd9 ct9), sl9⟩)
    (c9 : PySem.W.codeIn K cd9 "whole_mask" = true)
    (k9 : PySem.W.keepIn K (.ref f9) = true)
    (a10 : PySem.W.nsIn K mainGlobals "wrapped" = some (some (.ref f10)))
    (l10 : K.lookup f10 = some ⟨oc10, od10, .func (PySem.W.fnOf "wrapped" "wrapped" (defArgs (top 25)) (defBody (top 25)) (defScope (top 25)) .none kV10 dc10 pm10 an10 cd10 ct10), sl10⟩)
    (c10 : PySem.W.codeIn K cd10 "wrapped" = true)
    (k10 : PySem.W.keepIn K (.ref f10) = true)
    (a11 : PySem.W.nsIn K mainGlobals "turned" = some (some (.ref f11)))
    (l11 : K.lookup f11 = some ⟨oc11, od11, .func (PySem.W.fnOf "turned" "turned" (defArgs (top 26)) (defBody (top 26)) (defScope (top 26)) .none kV11 dc11 pm11 an11 cd11 ct11), sl11⟩)
    (c11 : PySem.W.codeIn K cd11 "turned" = true)
    (k11 : PySem.W.keepIn K (.ref f11) = true)
    (a12 : PySem.W.nsIn K mainGlobals "sums" = some (some (.ref f12)))
    (l12 : K.lookup f12 = some ⟨oc12, od12, .func (PySem.W.fnOf "sums" "sums" (defArgs (top 28)) (defBody (top 28)) (defScope (top 28)) .none kV12 dc12 pm12 an12 cd12 ct12), sl12⟩)
    (c12 : PySem.W.codeIn K cd12 "sums" = true)
    (k12 : PySem.W.keepIn K (.ref f12) = true)
    (a13 : PySem.W.nsIn K mainGlobals "scaled" = some (some (.ref f13)))
    (l13 : K.lookup f13 = some ⟨oc13, od13, .func (PySem.W.fnOf "scaled" "scaled" (defArgs (top 27)) (defBody (top 27)) (defScope (top 27)) .none kV13 dc13 pm13 an13 cd13 ct13), sl13⟩)
    (c13 : PySem.W.codeIn K cd13 "scaled" = true)
    (k13 : PySem.W.keepIn K (.ref f13) = true)
    (a14 : PySem.W.findIn K (.ref C) "__init__" = some (some (.ref f14)))
    (i14 : PySem.W.isFn K (.ref f14) = true)
    (l14 : K.lookup f14 = some ⟨oc14, od14, .func (PySem.W.fnOf "__init__" "Hours.__init__" (defArgs (inClass (top 31) 0)) (defBody (inClass (top 31) 0)) (defScope (inClass (top 31) 0)) (.ref T0) kV14 dc14 pm14 an14 cd14 ct14), sl14⟩)
    (c14 : PySem.W.codeIn K cd14 "Hours.__init__" = true)
    (k14 : PySem.W.keepIn K (.ref f14) = true)
    (lD : K.lookup T0 = some ⟨ocD, odD, .seq #[.ref a0] nD, slD⟩)
    (mk : PySem.W.makesIn K C = true)
    (kc : PySem.W.keepIn K (.ref C) = true)
    (a15 : PySem.W.nsIn K mainGlobals "of_mask" = some (some (.ref f15)))
    (l15 : K.lookup f15 = some ⟨oc15, od15, .func (PySem.W.fnOf "of_mask" "of_mask" (defArgs (top 32)) (defBody (top 32)) (defScope (top 32)) .none kV15 dc15 pm15 an15 cd15 ct15), sl15⟩)
    (c15 : PySem.W.codeIn K cd15 "of_mask" = true)
    (k15 : PySem.W.keepIn K (.ref f15) = true)
    (a16 : PySem.W.findIn K (.ref C) "clock" = some (some (.ref p16)))
    (g16 : PySem.W.specialIn K (.ref p16) "__get__" = some (some (.builtin "property.__get__")))
    (t16 : PySem.W.takesIn K (.ref p16) = some true)
    (r16 : PySem.W.recIn K p16 "property" = some (.ref f16 :: rest16))
    (l16 : K.lookup f16 = some ⟨oc16, od16, .func (PySem.W.fnOf "clock" "Hours.clock" (defArgs (inClass (top 31) 3)) (defBody (inClass (top 31) 3)) (defScope (inClass (top 31) 3)) .none kV16 dc16 pm16 an16 cd16 ct16), sl16⟩)
    (c16 : PySem.W.codeIn K cd16 "Hours.clock" = true)
    (k16 : PySem.W.keepIn K (.ref f16) = true)
    (a17 : PySem.W.findIn K (.ref C) "hours" = some (some (.ref p17)))
    (g17 : PySem.W.specialIn K (.ref p17) "__get__" = some (some (.builtin "property.__get__")))
    (t17 : PySem.W.takesIn K (.ref p17) = some true)
    (r17 : PySem.W.recIn K p17 "property" = some (.ref f17 :: rest17))
    (l17 : K.lookup f17 = some ⟨oc17, od17, .func (PySem.W.fnOf "hours" "Hours.hours" (defArgs (inClass (top 31) 4)) (defBody (inClass (top 31) 4)) (defScope (inClass (top 31) 4)) .none kV17 dc17 pm17 an17 cd17 ct17), sl17⟩)
    (c17 : PySem.W.codeIn K cd17 "Hours.hours" = true)
    (k17 : PySem.W.keepIn K (.ref f17) = true)
    (a18 : PySem.W.nsIn K mainGlobals "check_other" = some (some (.ref f18)))
    (l18 : K.lookup f18 = some ⟨oc18, od18, .func (PySem.W.fnOf "check_other" "check_other" (defArgs (top 33)) (defBody (top 33)) (defScope (top 33)) .none kV18 dc18 pm18 an18 cd18 ct18), sl18⟩)
    (c18 : PySem.W.codeIn K cd18 "check_other" = true)
    (k18 : PySem.W.keepIn K (.ref f18) = true)
    (a19 : PySem.W.findIn K (.ref C) "__add__" = some (some (.ref f19)))
    (i19 : PySem.W.isFn K (.ref f19) = true)
    (l19 : K.lookup f19 = some ⟨oc19, od19, .func (PySem.W.fnOf "__add__" "Hours.__add__" (defArgs (inClass (top 31) 7)) (defBody (inClass (top 31) 7)) (defScope (inClass (top 31) 7)) .none kV19 dc19 pm19 an19 cd19 ct19), sl19⟩)
    (c19 : PySem.W.codeIn K cd19 "Hours.__add__" = true)
    (k19 : PySem.W.keepIn K (.ref f19) = true)
    (a20 : PySem.W.findIn K (.ref C) "__sub__" = some (some (.ref f20)))
    (i20 : PySem.W.isFn K (.ref f20) = true)
    (l20 : K.lookup f20 = some ⟨oc20, od20, .func (PySem.W.fnOf "__sub__" "Hours.__sub__" (defArgs (inClass (top 31) 8)) (defBody (inClass (top 31) 8)) (defScope (inClass (top 31) 8)) .none kV20 dc20 pm20 an20 cd20 ct20), sl20⟩)
    (c20 : PySem.W.codeIn K cd20 "Hours.__sub__" = true)
    (k20 : PySem.W.keepIn K (.ref f20) = true)
    (a21 : PySem.W.findIn K (.ref C) "__or__" = some (some (.ref f21)))
    (i21 : PySem.W.isFn K (.ref f21) = true)
    (l21 : K.lookup f21 = some ⟨oc21, od21, .func (PySem.W.fnOf "__or__" "Hours.__or__" (defArgs (inClass (top 31) 9)) (defBody (inClass (top 31) 9)) (defScope (inClass (top 31) 9)) .none kV21 dc21 pm21 an21 cd21 ct21), sl21⟩)
    (c21 : PySem.W.codeIn K cd21 "Hours.__or__" = true)
    (k21 : PySem.W.keepIn K (.ref f21) = true)
    (a22 : PySem.W.findIn K (.ref C) "__and__" = some (some (.ref f22)))
    (i22 : PySem.W.isFn K (.ref f22) = true)
    (l22 : K.lookup f22 = some ⟨oc22, od22, .func (PySem.W.fnOf "__and__" "Hours.__and__" (defArgs (inClass (top 31) 10)) (defBody (inClass (top 31) 10)) (defScope (inClass (top 31) 10)) .none kV22 dc22 pm22 an22 cd22 ct22), sl22⟩)
    (c22 : PySem.W.codeIn K cd22 "Hours.__and__" = true)
    (k22 : PySem.W.keepIn K (.ref f22) = true)
    (a23 : PySem.W.findIn K (.ref C) "__invert__" = some (some (.ref f23)))
    (i23 : PySem.W.isFn K (.ref f23) = true)
    (l23 : K.lookup f23 = some ⟨oc23, od23, .func (PySem.W.fnOf "__invert__" "Hours.__invert__" (defArgs (inClass (top 31) 11)) (defBody (inClass (top 31) 11)) (defScope (inClass (top 31) 11)) .none kV23 dc23 pm23 an23 cd23 ct23), sl23⟩)
    (c23 : PySem.W.codeIn K cd23 "Hours.__invert__" = true)
    (k23 : PySem.W.keepIn K (.ref f23) = true)
    (a24 : PySem.W.findIn K (.ref C) "__neg__" = some (some (.ref f24)))
    (i24 : PySem.W.isFn K (.ref f24) = true)
    (l24 : K.lookup f24 = some ⟨oc24, od24, .func (PySem.W.fnOf "__neg__" "Hours.__neg__" (defArgs (inClass (top 31) 12)) (defBody (inClass (top 31) 12)) (defScope (inClass (top 31) 12)) .none kV24 dc24 pm24 an24 cd24 ct24), sl24⟩)
    (c24 : PySem.W.codeIn K cd24 "Hours.__neg__" = true)
    (k24 : PySem.W.keepIn K (.ref f24) = true)
    (a25 : PySem.W.findIn K (.ref C) "__mul__" = some (some (.ref f25)))
    (i25 : PySem.W.isFn K (.ref f25) = true)
    (l25 : K.lookup f25 = some ⟨oc25, od25, .func (PySem.W.fnOf "__mul__" "Hours.__mul__" (defArgs (inClass (top 31) 13)) (defBody (inClass (top 31) 13)) (defScope (inClass (top 31) 13)) .none kV25 dc25 pm25 an25 cd25 ct25), sl25⟩)
    (c25 : PySem.W.codeIn K cd25 "Hours.__mul__" = true)
    (k25 : PySem.W.keepIn K (.ref f25) = true)
    (a26 : PySem.W.findIn K (.ref C) "moved" = some (some (.ref f26)))
    (i26 : PySem.W.isFn K (.ref f26) = true)
    (l26 : K.lookup f26 = some ⟨oc26, od26, .func (PySem.W.fnOf "moved" "Hours.moved" (defArgs (inClass (top 31) 15)) (defBody (inClass (top 31) 15)) (defScope (inClass (top 31) 15)) .none kV26 dc26 pm26 an26 cd26 ct26), sl26⟩)
    (c26 : PySem.W.codeIn K cd26 "Hours.moved" = true)
    (k26 : PySem.W.keepIn K (.ref f26) = true)
    (a27 : PySem.W.findIn K (.ref C) "__eq__" = some (some (.ref f27)))
    (i27 : PySem.W.isFn K (.ref f27) = true)
    (l27 : K.lookup f27 = some ⟨oc27, od27, .func (PySem.W.fnOf "__eq__" "Hours.__eq__" (defArgs (inClass (top 31) 24)) (defBody (inClass (top 31) 24)) (defScope (inClass (top 31) 24)) .none kV27 dc27 pm27 an27 cd27 ct27), sl27⟩)
    (c27 : PySem.W.codeIn K cd27 "Hours.__eq__" = true)
    (k27 : PySem.W.keepIn K (.ref f27) = true)
    (a28 : PySem.W.nsIn K mainGlobals "_law_draw" = some (some (.ref f28)))
    (l28 : K.lookup f28 = some ⟨oc28, od28, .func (PySem.W.fnOf "_law_draw" "_law_draw" (defArgs (top 37)) (defBody (top 37)) (defScope (top 37)) .none kV28 dc28 pm28 an28 cd28 ct28), sl28⟩)
    (c28 : PySem.W.codeIn K cd28 "_law_draw" = true)
    (k28 : PySem.W.keepIn K (.ref f28) = true)
    (a29 : PySem.W.nsIn K mainGlobals "_law_some" = some (some (.ref f29)))
    (l29 : K.lookup f29 = some ⟨oc29, od29, .func (PySem.W.fnOf "_law_some" "_law_some" (defArgs (top 38)) (defBody (top 38)) (defScope (top 38)) .none kV29 dc29 pm29 an29 cd29 ct29), sl29⟩)
    (c29 : PySem.W.codeIn K cd29 "_law_some" = true)
    (k29 : PySem.W.keepIn K (.ref f29) = true)
    (a30 : PySem.W.nsIn K mainGlobals "_law_sums" = some (some (.ref f30)))
    (l30 : K.lookup f30 = some ⟨oc30, od30, .func (PySem.W.fnOf "_law_sums" "_law_sums" (defArgs (top 39)) (defBody (top 39)) (defScope (top 39)) .none kV30 dc30 pm30 an30 cd30 ct30), sl30⟩)
    (c30 : PySem.W.codeIn K cd30 "_law_sums" = true)
    (k30 : PySem.W.keepIn K (.ref f30) = true)
    (a31 : PySem.W.nsIn K mainGlobals "_law_purse" = some (some (.ref f31)))
    (l31 : K.lookup f31 = some ⟨oc31, od31, .func (PySem.W.fnOf "_law_purse" "_law_purse" (defArgs (top 36)) (defBody (top 36)) (defScope (top 36)) .none kV31 dc31 pm31 an31 cd31 ct31), sl31⟩)
    (c31 : PySem.W.codeIn K cd31 "_law_purse" = true)
    (k31 : PySem.W.keepIn K (.ref f31) = true)
    (a32 : PySem.W.nsIn K mainGlobals "_law_right" = some (some (.ref f32)))
    (l32 : K.lookup f32 = some ⟨oc32, od32, .func (PySem.W.fnOf "_law_right" "_law_right" (defArgs (top 40)) (defBody (top 40)) (defScope (top 40)) .none kV32 dc32 pm32 an32 cd32 ct32), sl32⟩)
    (c32 : PySem.W.codeIn K cd32 "_law_right" = true)
    (k32 : PySem.W.keepIn K (.ref f32) = true)
    (a33 : PySem.W.nsIn K mainGlobals "law" = some (some (.ref f33)))
    (l33 : K.lookup f33 = some ⟨oc33, od33, .func (PySem.W.fnOf "law" "law" (defArgs (top 41)) (defBody (top 41)) (defScope (top 41)) .none kV33 dc33 pm33 an33 cd33 ct33), sl33⟩)
    (c33 : PySem.W.codeIn K cd33 "law" = true)
    (k33 : PySem.W.keepIn K (.ref f33) = true)
    (pg : PySem.W.plainGet K C Str.empty = true)
    (hd : PySem.W.hasDictIn K C = true)
    (po : PySem.W.plainOver K C = true)
    (sa : PySem.W.findIn K (.ref C) "__setattr__" = some (some (.builtin "object.__setattr__")))
    (nC : PySem.W.findIn K (.ref C) "_clock" = some none)
    (nH : PySem.W.findIn K (.ref C) "_hours" = some none)
    (nM : PySem.W.findIn K (.ref C) "_mask" = some none)
    (most : PySem.W.nsIn K mainGlobals "MOST_HOURS" = some (some (.int 240 tk)))
    (ha : PySem.W.findIn K (.ref C) "__class__" = some (some (.builtin "object.__class__")))
    (hn : PySem.W.specialIn K (.builtin "object.__class__") "__get__" = some (some (.builtin "getset_descriptor.__get__")))
    (htk : PySem.W.takesIn K (.builtin "object.__class__") = some true)
    (hm : PySem.W.mroIn K C (.type "object") = some true)
    (sf : PySem.W.selfFirst K C = true)
    (ne : PySem.W.findIn K (.ref C) "__ne__" = some (some (.builtin "object.__ne__")))
    (ob : PySem.W.subIn K (.ref C) (.type "object") = some true)
    (rm : PySem.W.findIn K (.ref C) (dunderR Operator.Mult.info.2) = some none)
    (im : PySem.W.findIn K (.type "int") (PySem.dunder Operator.Mult.info.2) = some oim)
    (ir : PySem.W.findIn K (.type "int") (dunderR Operator.Mult.info.2) = some oir)
    (ci : PySem.W.subIn K (.type "int") (.ref C) = some false)
    (z_len : PySem.W.nsIn K mainGlobals "len" = some none)
    (z_int : PySem.W.nsIn K mainGlobals "int" = some none)
    (z_abs : PySem.W.nsIn K mainGlobals "abs" = some none)
    (z_range : PySem.W.nsIn K mainGlobals "range" = some none)
    (z_tuple : PySem.W.nsIn K mainGlobals "tuple" = some none)
    (z_list : PySem.W.nsIn K mainGlobals "list" = some none)
    (z_set : PySem.W.nsIn K mainGlobals "set" = some none)
    (z_sorted : PySem.W.nsIn K mainGlobals "sorted" = some none)
    (z_all : PySem.W.nsIn K mainGlobals "all" = some none)
    (z_divmod : PySem.W.nsIn K mainGlobals "divmod" = some none)
    (z_isinstance : PySem.W.nsIn K mainGlobals "isinstance" = some none)
    (z_str : PySem.W.nsIn K mainGlobals "str" = some none)
    (z_repr : PySem.W.nsIn K mainGlobals "repr" = some none)
    (z_bool : PySem.W.nsIn K mainGlobals "bool" = some none)
    (z_min : PySem.W.nsIn K mainGlobals "min" = some none)
    (z_max : PySem.W.nsIn K mainGlobals "max" = some none)
    (z_zip : PySem.W.nsIn K mainGlobals "zip" = some none)
    (z_enumerate : PySem.W.nsIn K mainGlobals "enumerate" = some none)
    (z_sum : PySem.W.nsIn K mainGlobals "sum" = some none)
    : ∃ fd : FuncData, (∀ (s : Shared) (v : Value), BindsTo s fd ⟨[v], []⟩ [("script", v)]) ∧ ∀ base : Heap, K.In base → base.Ns mainGlobals mg → FnOk l.prog w K mg base L2.CX0 12 fa fd ["script"] (spLawO K) := by
  have e := hfa.symm.trans (PySem.W.mg_of X G a33)
  cases e
  refine ⟨PySem.W.fnOf "law" "law" (defArgs (top 41)) (defBody (top 41)) (defScope (top 41)) .none kV33 dc33 pm33 an33 cd33 ct33, fun s v => .of_eq rfl, fun base _ _ => ?_⟩
  have B : Blt mg := ⟨PySem.W.mg_none_of X G z_len, PySem.W.mg_none_of X G z_int, PySem.W.mg_none_of X G z_abs, PySem.W.mg_none_of X G z_range, PySem.W.mg_none_of X G z_tuple, PySem.W.mg_none_of X G z_list, PySem.W.mg_none_of X G z_set, PySem.W.mg_none_of X G z_sorted, PySem.W.mg_none_of X G z_all, PySem.W.mg_none_of X G z_divmod, PySem.W.mg_none_of X G z_isinstance, PySem.W.mg_none_of X G z_str, PySem.W.mg_none_of X G z_repr, PySem.W.mg_none_of X G z_bool, PySem.W.mg_none_of X G z_min, PySem.W.mg_none_of X G z_max, PySem.W.mg_none_of X G z_zip, PySem.W.mg_none_of X G z_enumerate, PySem.W.mg_none_of X G z_sum⟩
  have cls : Cls K C := ⟨pg, hd, po, sa⟩
  have T : Txt K mg C := ⟨B, cls, nC, nH, nM, ⟨tk, PySem.W.mg_of X G most⟩, PySem.W.mg_of X G aC, ⟨cls, ha, hn, htk, hm, if_pos (beq_self_eq_true _)⟩, ⟨sf⟩, ne, ob, rm, ⟨oim, im⟩, ⟨oir, ir⟩, ci⟩
  obtain ⟨cl, hcl⟩ : ∃ cl : Str → Option Addr, cl = fun s : Str => if s = "Hours" then some C else none := ⟨_, rfl⟩
  have hc : cl "Hours" = some C := by rw [hcl]; exact if_pos rfl
  have F1 := fun_mk (st := (top 13)) l1 c1 k1
  have b1 := F1.binds (ps := ["value"]) fun _ _ _ _ _ _ us hl => match us, hl with | [_], _ => rfl
  have c_is_integer : Callable l.prog w K mg base "is_integer" _ ["value"] _ := ⟨⟨f1, _, ok_is_integer F1 B, PySem.W.mg_of X G a1, k1, b1⟩⟩
  have F2 := fun_mk (st := (top 14)) l2 c2 k2
  have b2 := F2.binds (ps := ["clock", "value"]) fun _ _ _ _ _ _ us hl => match us, hl with | [_, _], _ => rfl
  have c_is_hour : Callable l.prog w K mg base "is_hour" _ ["clock", "value"] _ := ⟨⟨f2, _, ok_is_hour F2 B c_is_integer, PySem.W.mg_of X G a2, k2, b2⟩⟩
  have F3 := fun_mk (st := (top 15)) l3 c3 k3
  have b3 := F3.binds (ps := ["clock", "hours"]) fun _ _ _ _ _ _ us hl => match us, hl with | [_, _], _ => rfl
  have c_wrong_index : Callable l.prog w K mg base "wrong_index" _ ["clock", "hours"] _ := ⟨⟨f3, _, ok_wrong F3 B c_is_hour, PySem.W.mg_of X G a3, k3, b3⟩⟩
  have F4 := fun_mk (st := (top 17)) l4 c4 k4
  have b4 := F4.binds (ps := ["clock", "most"]) fun _ _ _ _ _ _ us hl => match us, hl with | [_, _], _ => rfl
  have c_check_clock : Callable l.prog w K mg base "check_clock" _ ["clock", "most"] _ := ⟨⟨f4, _, ok_check_clock F4 B c_is_integer, PySem.W.mg_of X G a4, k4, b4⟩⟩
  have F5 := fun_mk (st := (top 19)) l5 c5 k5
  have b5 := F5.binds (ps := ["clock", "hours"]) fun _ _ _ _ _ _ us hl => match us, hl with | [_, _], _ => rfl
  have c_check_hours : Callable l.prog w K mg base "check_hours" _ ["clock", "hours"] _ := ⟨⟨f5, _, ok_check_hours F5 B c_wrong_index, PySem.W.mg_of X G a5, k5, b5⟩⟩
  have F6 := fun_mk (st := (top 16)) l6 c6 k6
  have b6 := F6.binds (ps := ["number"]) fun _ _ _ _ _ _ us hl => match us, hl with | [_], _ => rfl
  have c_check_integer : Callable l.prog w K mg base "check_integer" _ ["number"] _ := ⟨⟨f6, _, ok_check_integer F6 B c_is_integer, PySem.W.mg_of X G a6, k6, b6⟩⟩
  have F7 := fun_mk (st := (top 22)) l7 c7 k7
  have b7 := F7.binds (ps := ["hours"]) fun _ _ _ _ _ _ us hl => match us, hl with | [_], _ => rfl
  have c_mask_of : Callable l.prog w K mg base "mask_of" _ ["hours"] _ := ⟨⟨f7, _, ok_mask F7 B, PySem.W.mg_of X G a7, k7, b7⟩⟩
  have F8 := fun_mk (st := (top 23)) l8 c8 k8
  have b8 := F8.binds (ps := ["mask"]) fun _ _ _ _ _ _ us hl => match us, hl with | [_], _ => rfl
  have c_hours_of : Callable l.prog w K mg base "hours_of" _ ["mask"] _ := ⟨⟨f8, _, ok_hours_of F8 B, PySem.W.mg_of X G a8, k8, b8⟩⟩
  have F9 := fun_mk (st := (top 24)) l9 c9 k9
  have b9 := F9.binds (ps := ["clock"]) fun _ _ _ _ _ _ us hl => match us, hl with | [_], _ => rfl
  have c_whole_mask : Callable l.prog w K mg base "whole_mask" _ ["clock"] _ := ⟨⟨f9, _, ok_whole F9 B, PySem.W.mg_of X G a9, k9, b9⟩⟩
  have F10 := fun_mk (st := (top 25)) l10 c10 k10
  have b10 := F10.binds (ps := ["clock", "mask"]) fun _ _ _ _ _ _ us hl => match us, hl with | [_, _], _ => rfl
  have c_wrapped : Callable l.prog w K mg base "wrapped" _ ["clock", "mask"] _ := ⟨⟨f10, _, ok_wrap F10 B c_whole_mask, PySem.W.mg_of X G a10, k10, b10⟩⟩
  have F11 := fun_mk (st := (top 26)) l11 c11 k11
  have b11 := F11.binds (ps := ["clock", "mask", "by"]) fun _ _ _ _ _ _ us hl => match us, hl with | [_, _, _], _ => rfl
  have c_turned : Callable l.prog w K mg base "turned" _ ["clock", "mask", "by"] _ := ⟨⟨f11, _, ok_turned F11 B c_wrapped, PySem.W.mg_of X G a11, k11, b11⟩⟩
  have F12 := fun_mk (st := (top 28)) l12 c12 k12
  have b12 := F12.binds (ps := ["clock", "one", "other"]) fun _ _ _ _ _ _ us hl => match us, hl with | [_, _, _], _ => rfl
  have c_sums : Callable l.prog w K mg base "sums" _ ["clock", "one", "other"] _ := ⟨⟨f12, _, ok_sums F12 B c_wrapped c_hours_of, PySem.W.mg_of X G a12, k12, b12⟩⟩
  have F13 := fun_mk (st := (top 27)) l13 c13 k13
  have b13 := F13.binds (ps := ["clock", "mask", "factor"]) fun _ _ _ _ _ _ us hl => match us, hl with | [_, _, _], _ => rfl
  have c_scaled : Callable l.prog w K mg base "scaled" _ ["clock", "mask", "factor"] _ := ⟨⟨f13, _, ok_scaled F13 B c_mask_of c_hours_of, PySem.W.mg_of X G a13, k13, b13⟩⟩
  have FI : FunD K "__init__" "Hours.__init__" (defArgs (inClass (top 31) 0)) (defBody (inClass (top 31) 0)) (defScope (inClass (top 31) 0)) [V.ref a0] [] f14 _ := ⟨⟨oc14, od14, .ref T0, kV14, dc14, pm14, an14, cd14, ct14, sl14, rfl, l14, c14, .inr ⟨by simp, T0, _, [.ref a0], nD, rfl, lD, rfl, .cons rfl .nil⟩, .inl rfl⟩, k14⟩
  obtain ⟨dsI, vI, bI⟩ := FI.binds1 (ps := ["self", "clock", "hours"]) 3 1 (by simp) rfl fun T kV doc pm an cdv ct us its hu hi => match us, its, hu, hi with | [_, _, _], [_], _, _ => ⟨_, rfl, rfl⟩
  have MK : MkH l.prog w K mg base C := ⟨⟨f14, _, dsI, ⟨mk, a14, i14, kc⟩, ok_init FI T c_check_clock c_check_hours c_mask_of, PySem.W.mg_of X G aC, bI, vI⟩⟩
  have F15 := fun_mk (st := (top 32)) l15 c15 k15
  have b15 := F15.binds (ps := ["clock", "mask"]) fun _ _ _ _ _ _ us hl => match us, hl with | [_, _], _ => rfl
  have c_of_mask : Callable l.prog w K mg base "of_mask" _ ["clock", "mask"] _ := ⟨⟨f15, _, ok_of_mask F15 T c_hours_of MK, PySem.W.mg_of X G a15, k15, b15⟩⟩
  have F16 := fun_mk (st := (inClass (top 31) 3)) l16 c16 k16
  have b16 := F16.binds (ps := ["self"]) fun _ _ _ _ _ _ us hl => match us, hl with | [_], _ => rfl
  have PC : PropOk l.prog w K mg base C "clock" 1 ["self"] (spGetN K C) := ⟨⟨p16, f16, _, ⟨a16, g16, t16, rest16, r16⟩, ok_getN F16 T, b16⟩⟩
  have F17 := fun_mk (st := (inClass (top 31) 4)) l17 c17 k17
  have b17 := F17.binds (ps := ["self"]) fun _ _ _ _ _ _ us hl => match us, hl with | [_], _ => rfl
  have PH : PropOk l.prog w K mg base C "hours" 1 ["self"] (spGetH K C) := ⟨⟨p17, f17, _, ⟨a17, g17, t17, rest17, r17⟩, ok_getH F17 T, b17⟩⟩
  have PN := PC
  have F18 := fun_mk (st := (top 33)) l18 c18 k18
  have b18 := F18.binds (ps := ["clock", "other"]) fun _ _ _ _ _ _ us hl => match us, hl with | [_, _], _ => rfl
  have c_check_other : Callable l.prog w K mg base "check_other" _ ["clock", "other"] _ := ⟨⟨f18, _, ok_other F18 T PN, PySem.W.mg_of X G a18, k18, b18⟩⟩
  have F19 := fun_mk (st := (inClass (top 31) 7)) l19 c19 k19
  have b19 := F19.binds (ps := ["self", "other"]) fun _ _ _ _ _ _ us hl => match us, hl with | [_, _], _ => rfl
  have m___add__ : MethOk l.prog w K mg base C "__add__" 8 ["self", "other"] _ := ⟨⟨f19, _, ok_add F19 T c_check_other c_sums c_of_mask, ⟨a19, i19, k19⟩, b19⟩⟩
  have F20 := fun_mk (st := (inClass (top 31) 8)) l20 c20 k20
  have b20 := F20.binds (ps := ["self", "other"]) fun _ _ _ _ _ _ us hl => match us, hl with | [_, _], _ => rfl
  have m___sub__ : MethOk l.prog w K mg base C "__sub__" 8 ["self", "other"] _ := ⟨⟨f20, _, ok_sub F20 T c_check_other c_sums c_of_mask c_scaled, ⟨a20, i20, k20⟩, b20⟩⟩
  have F21 := fun_mk (st := (inClass (top 31) 9)) l21 c21 k21
  have b21 := F21.binds (ps := ["self", "other"]) fun _ _ _ _ _ _ us hl => match us, hl with | [_, _], _ => rfl
  have m___or__ : MethOk l.prog w K mg base C "__or__" 8 ["self", "other"] _ := ⟨⟨f21, _, ok_or F21 T c_check_other c_of_mask, ⟨a21, i21, k21⟩, b21⟩⟩
  have F22 := fun_mk (st := (inClass (top 31) 10)) l22 c22 k22
  have b22 := F22.binds (ps := ["self", "other"]) fun _ _ _ _ _ _ us hl => match us, hl with | [_, _], _ => rfl
  have m___and__ : MethOk l.prog w K mg base C "__and__" 8 ["self", "other"] _ := ⟨⟨f22, _, ok_and F22 T c_check_other c_of_mask, ⟨a22, i22, k22⟩, b22⟩⟩
  have F23 := fun_mk (st := (inClass (top 31) 11)) l23 c23 k23
  have b23 := F23.binds (ps := ["self"]) fun _ _ _ _ _ _ us hl => match us, hl with | [_], _ => rfl
  have m___invert__ : MethOk l.prog w K mg base C "__invert__" 8 ["self"] _ := ⟨⟨f23, _, ok_inv F23 T c_whole_mask c_of_mask, ⟨a23, i23, k23⟩, b23⟩⟩
  have F24 := fun_mk (st := (inClass (top 31) 12)) l24 c24 k24
  have b24 := F24.binds (ps := ["self"]) fun _ _ _ _ _ _ us hl => match us, hl with | [_], _ => rfl
  have m___neg__ : MethOk l.prog w K mg base C "__neg__" 8 ["self"] _ := ⟨⟨f24, _, ok_neg F24 T c_scaled c_of_mask, ⟨a24, i24, k24⟩, b24⟩⟩
  have F25 := fun_mk (st := (inClass (top 31) 13)) l25 c25 k25
  have b25 := F25.binds (ps := ["self", "other"]) fun _ _ _ _ _ _ us hl => match us, hl with | [_, _], _ => rfl
  have m___mul__ : MethOk l.prog w K mg base C "__mul__" 8 ["self", "other"] _ := ⟨⟨f25, _, ok_mul F25 T c_check_integer c_scaled c_of_mask, ⟨a25, i25, k25⟩, b25⟩⟩
  have F26 := fun_mk (st := (inClass (top 31) 15)) l26 c26 k26
  have b26 := F26.binds (ps := ["self", "by"]) fun _ _ _ _ _ _ us hl => match us, hl with | [_, _], _ => rfl
  have m_moved : MethOk l.prog w K mg base C "moved" 8 ["self", "by"] _ := ⟨⟨f26, _, ok_moved F26 T c_check_integer c_turned c_of_mask, ⟨a26, i26, k26⟩, b26⟩⟩
  have mK_moved : MethKOk l.prog w K mg base C "moved" "by" 8 ["self", "by"] _ := ⟨⟨f26, _, ok_moved F26 T c_check_integer c_turned c_of_mask, ⟨a26, i26, k26⟩, kb1 rfl fun _ _ => rfl⟩⟩
  have F27 := fun_mk (st := (inClass (top 31) 24)) l27 c27 k27
  have b27 := F27.binds (ps := ["self", "other"]) fun _ _ _ _ _ _ us hl => match us, hl with | [_, _], _ => rfl
  have m___eq__ : MethOk l.prog w K mg base C "__eq__" 8 ["self", "other"] _ := ⟨⟨f27, _, ok_eq F27 T, ⟨a27, i27, k27⟩, b27⟩⟩
  have F28 := fun_mk (st := (top 37)) l28 c28 k28
  have b28 := F28.binds (ps := ["purse", "many"]) fun _ _ _ _ _ _ us hl => match us, hl with | [_, _], _ => rfl
  have c__law_draw : Callable l.prog w K mg base "_law_draw" _ ["purse", "many"] _ := ⟨⟨f28, _, ok_draw (cl := cl) F28 B, PySem.W.mg_of X G a28, k28, b28⟩⟩
  have F29 := fun_mk (st := (top 38)) l29 c29 k29
  have b29 := F29.binds (ps := ["purse", "many"]) fun _ _ _ _ _ _ us hl => match us, hl with | [_, _], _ => rfl
  have c__law_some : Callable l.prog w K mg base "_law_some" _ ["purse", "many"] _ := ⟨⟨f29, _, ok_some (cl := cl) F29 B c__law_draw, PySem.W.mg_of X G a29, k29, b29⟩⟩
  have F30 := fun_mk (st := (top 39)) l30 c30 k30
  have b30 := F30.binds (ps := ["many", "row", "mates"]) fun _ _ _ _ _ _ us hl => match us, hl with | [_, _, _], _ => rfl
  have c__law_sums : Callable l.prog w K mg base "_law_sums" _ ["many", "row", "mates"] _ := ⟨⟨f30, _, ok_lsums (cl := cl) F30 B, PySem.W.mg_of X G a30, k30, b30⟩⟩
  have F31 := fun_mk (st := (top 36)) l31 c31 k31
  have b31 := F31.binds (ps := ["script", "spot"]) fun _ _ _ _ _ _ us hl => match us, hl with | [_, _], _ => rfl
  have c__law_purse : Callable l.prog w K mg base "_law_purse" _ ["script", "spot"] _ := ⟨⟨f31, _, ok_purse (cl := cl) F31 B, PySem.W.mg_of X G a31, k31, b31⟩⟩
  have V5 : Env5 l.prog w K mg base C cl := ⟨T, hc, c__law_draw, c__law_some, c__law_sums, MK, Pk.PropOk.imp PC (w_getN hc), Pk.PropOk.imp PH (w_getH hc), Pk.MethOk.imp m___add__ (w_bin hc), Pk.MethOk.imp m___sub__ (w_bin hc), Pk.MethOk.imp m___or__ (w_bin hc), Pk.MethOk.imp m___and__ (w_bin hc), Pk.MethOk.imp m___invert__ (w_un hc), Pk.MethOk.imp m___neg__ (w_un hc), Pk.MethOk.imp m___mul__ (w_num hc), Pk.MethOk.imp m_moved (w_num hc), Pk.MethKOk.imp mK_moved (w_num hc), Pk.MethOk.imp m___eq__ (w_eq hc)⟩
  have F32 := fun_mk (st := (top 40)) l32 c32 k32
  have b32 := F32.binds (ps := ["purse"]) fun _ _ _ _ _ _ us hl => match us, hl with | [_], _ => rfl
  have c__law_right : Callable l.prog w K mg base "_law_right" _ ["purse"] _ := ⟨⟨f32, _, ok_lright F32 V5, PySem.W.mg_of X G a32, k32, b32⟩⟩
  have FL := fun_mk (st := (top 41)) l33 c33 k33
  exact (ok_law FL B c__law_purse c__law_right).imp w_law
end Pk

end
set_option maxRecDepth 100000
open PySem PySem.W PyProof.Rows
set_option maxRecDepth 100000 in
set_option maxHeartbeats 0 in
theorem PySem.Challenge.cw_hoursums_k05_hours_added_and_joined_holds : PySem.Challenge.rw_hoursums_k05_hours_added_and_joined.Holds := by
  w_on; o_law; k_head; (case hw => w_witness2)
  k_fill
  refine L2.walk_of (n := 63) (k := 12) (x := "script") (CX := fun _ => L2.CX0) (sp := fun w => Pk.spLawO _) rfl (by decide) rfl ⟨rfl, by decide, by decide⟩ (fun w h Y => PySem.W.kIn_of Y) ?F (fun _ _ a ns hl _ hS => ⟨a, ns, rfl, hS, hl, fun _ => rfl⟩) fun _ _ _ _ _ z => z
  case F =>
    intro w mg fa h KX G hmg
    refine' Pk.all_mk (l := PySem.Challenge.rw_hoursums_k05_hours_added_and_joined) KX G hmg ?aC ?a1 ?l1 ?c1 ?k1 ?a2 ?l2 ?c2 ?k2 ?a3 ?l3 ?c3 ?k3 ?a4 ?l4 ?c4 ?k4 ?a5 ?l5 ?c5 ?k5 ?a6 ?l6 ?c6 ?k6 ?a7 ?l7 ?c7 ?k7 ?a8 ?l8 ?c8 ?k8 ?a9 ?l9 ?c9 ?k9 ?a10 ?l10 ?c10 ?k10 ?a11 ?l11 ?c11 ?k11 ?a12 ?l12 ?c12 ?k12 ?a13 ?l13 ?c13 ?k13 ?a14 ?i14 ?l14 ?c14 ?k14 ?lD ?mk ?kc ?a15 ?l15 ?c15 ?k15 ?a16 ?g16 ?t16 ?r16 ?l16 ?c16 ?k16 ?a17 ?g17 ?t17 ?r17 ?l17 ?c17 ?k17 ?a18 ?l18 ?c18 ?k18 ?a19 ?i19 ?l19 ?c19 ?k19 ?a20 ?i20 ?l20 ?c20 ?k20 ?a21 ?i21 ?l21 ?c21 ?k21 ?a22 ?i22 ?l22 ?c22 ?k22 ?a23 ?i23 ?l23 ?c23 ?k23 ?a24 ?i24 ?l24 ?c24 ?k24 ?a25 ?i25 ?l25 ?c25 ?k25 ?a26 ?i26 ?l26 ?c26 ?k26 ?a27 ?i27 ?l27 ?c27 ?k27 ?a28 ?l28 ?c28 ?k28 ?a29 ?l29 ?c29 ?k29 ?a30 ?l30 ?c30 ?k30 ?a31 ?l31 ?c31 ?k31 ?a32 ?l32 ?c32 ?k32 ?a33 ?l33 ?c33 ?k33 ?pg ?hd ?po ?sa ?nC ?nH ?nM ?most ?ha ?hn ?htk ?hm ?sf ?ne ?ob ?rm ?im ?ir ?ci ?z_len ?z_int ?z_abs ?z_range ?z_tuple ?z_list ?z_set ?z_sorted ?z_all ?z_divmod ?z_isinstance ?z_str ?z_repr ?z_bool ?z_min ?z_max ?z_zip ?z_enumerate ?z_sum
    (case aC => k_is)
    (case a1 => k_is)
    (case l1 => k_is)
    (case c1 => k_is)
    (case k1 => k_is)
    (case a2 => k_is)
    (case l2 => k_is)
    (case c2 => k_is)
    (case k2 => k_is)
    (case a3 => k_is)
    (case l3 => k_is)
    (case c3 => k_is)
    (case k3 => k_is)
    (case a4 => k_is)
    (case l4 => k_is)
    (case c4 => k_is)
    (case k4 => k_is)
    (case a5 => k_is)
    (case l5 => k_is)
    (case c5 => k_is)
    (case k5 => k_is)
    (case a6 => k_is)
    (case l6 => k_is)
    (case c6 => k_is)
    (case k6 => k_is)
    (case a7 => k_is)
    (case l7 => k_is)
    (case c7 => k_is)
    (case k7 => k_is)
    (case a8 => k_is)
    (case l8 => k_is)
    (case c8 => k_is)
    (case k8 => k_is)
    (case a9 => k_is)
    (case l9 => k_is)
    (case c9 => k_is)
    (case k9 => k_is)
    (case a10 => k_is)
    (case l10 => k_is)
    (case c10 => k_is)
    (case k10 => k_is)
    (case a11 => k_is)
    (case l11 => k_is)
    (case c11 => k_is)
    (case k11 => k_is)
    (case a12 => k_is)
    (case l12 => k_is)
    (case c12 => k_is)
    (case k12 => k_is)
    (case a13 => k_is)
    (case l13 => k_is)
    (case c13 => k_is)
    (case k13 => k_is)
    (case a14 => k_is)
    (case i14 => k_is)
    (case l14 => k_is)
    (case c14 => k_is)
    (case k14 => k_is)
    (case lD => k_is)
    (case mk => k_is)
    (case kc => k_is)
    (case a15 => k_is)
    (case l15 => k_is)
    (case c15 => k_is)
    (case k15 => k_is)
    (case a16 => k_is)
    (case g16 => k_is)
    (case t16 => k_is)
    (case r16 => k_is)
    (case l16 => k_is)
    (case c16 => k_is)
    (case k16 => k_is)
    (case a17 => k_is)
    (case g17 => k_is)
    (case t17 => k_is)
    (case r17 => k_is)
    (case l17 => k_is)
    (case c17 => k_is)
    (case k17 => k_is)
    (case a18 => k_is)
    (case l18 => k_is)
    (case c18 => k_is)
    (case k18 => k_is)
    (case a19 => k_is)
    (case i19 => k_is)
    (case l19 => k_is)
    (case c19 => k_is)
    (case k19 => k_is)
    (case a20 => k_is)
    (case i20 => k_is)
    (case l20 => k_is)
    (case c20 => k_is)
    (case k20 => k_is)
    (case a21 => k_is)
    (case i21 => k_is)
    (case l21 => k_is)
    (case c21 => k_is)
    (case k21 => k_is)
    (case a22 => k_is)
    (case i22 => k_is)
    (case l22 => k_is)
    (case c22 => k_is)
    (case k22 => k_is)
    (case a23 => k_is)
    (case i23 => k_is)
    (case l23 => k_is)
    (case c23 => k_is)
    (case k23 => k_is)
    (case a24 => k_is)
    (case i24 => k_is)
    (case l24 => k_is)
    (case c24 => k_is)
    (case k24 => k_is)
    (case a25 => k_is)
    (case i25 => k_is)
    (case l25 => k_is)
    (case c25 => k_is)
    (case k25 => k_is)
    (case a26 => k_is)
    (case i26 => k_is)
    (case l26 => k_is)
    (case c26 => k_is)
    (case k26 => k_is)
    (case a27 => k_is)
    (case i27 => k_is)
    (case l27 => k_is)
    (case c27 => k_is)
    (case k27 => k_is)
    (case a28 => k_is)
    (case l28 => k_is)
    (case c28 => k_is)
    (case k28 => k_is)
    (case a29 => k_is)
    (case l29 => k_is)
    (case c29 => k_is)
    (case k29 => k_is)
    (case a30 => k_is)
    (case l30 => k_is)
    (case c30 => k_is)
    (case k30 => k_is)
    (case a31 => k_is)
    (case l31 => k_is)
    (case c31 => k_is)
    (case k31 => k_is)
    (case a32 => k_is)
    (case l32 => k_is)
    (case c32 => k_is)
    (case k32 => k_is)
    (case a33 => k_is)
    (case l33 => k_is)
    (case c33 => k_is)
    (case k33 => k_is)
    (case pg => k_is)
    (case hd => k_is)
    (case po => k_is)
    (case sa => k_is)
    (case nC => k_is)
    (case nH => k_is)
    (case nM => k_is)
    (case most => k_is)
    (case ha => k_is)
    (case hn => k_is)
    (case htk => k_is)
    (case hm => k_is)
    (case sf => k_is)
    (case ne => k_is)
    (case ob => k_is)
    (case rm => k_is)
    (case im => k_is)
    (case ir => k_is)
    (case ci => k_is)
    (case z_len => k_is)
    (case z_int => k_is)
    (case z_abs => k_is)
    (case z_range => k_is)
    (case z_tuple => k_is)
    (case z_list => k_is)
    (case z_set => k_is)
    (case z_sorted => k_is)
    (case z_all => k_is)
    (case z_divmod => k_is)
    (case z_isinstance => k_is)
    (case z_str => k_is)
    (case z_repr => k_is)
    (case z_bool => k_is)
    (case z_min => k_is)
    (case z_max => k_is)
    (case z_zip => k_is)
    (case z_enumerate => k_is)
    (case z_sum => k_is)

