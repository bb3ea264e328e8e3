package tests

import (
	"go/ast"
	"go/parser"
	"go/token"
	"path/filepath"
	"slices"
	"strings"
	"testing"
)

// allowedImports are those of the language page.
var allowedImports = strings.Fields("bytes cmp container/heap errors iter maps math math/bits slices sort strconv strings sync sync/atomic unicode unicode/utf8")

// layers are the files of the program, by name.
func layers(t *testing.T, fset *token.FileSet) map[string]*ast.File {
	t.Helper()
	names, err := filepath.Glob("../impl/*.go")
	if err != nil || len(names) == 0 {
		t.Fatal("the program is not there", err)
	}
	all := map[string]*ast.File{}
	for _, name := range names {
		f, err := parser.ParseFile(fset, name, nil, parser.ParseComments)
		if err != nil {
			t.Fatal(err)
		}
		all[filepath.Base(name)] = f
	}
	return all
}

func TestTheProgramKeepsToItsLanguage(t *testing.T) {
	fset := token.NewFileSet()
	for name, f := range layers(t, fset) {
		for _, i := range f.Imports {
			if !slices.Contains(allowedImports, strings.Trim(i.Path.Value, `"`)) {
				t.Errorf("%s imports %s", name, i.Path.Value)
			}
		}
		for _, group := range f.Comments {
			for _, c := range group.List {
				if strings.HasPrefix(c.Text, "//go:") || strings.HasPrefix(c.Text, "// +build") {
					t.Errorf("%s has the line %s", name, c.Text)
				}
			}
		}
		for _, d := range f.Decls {
			lines := fset.Position(d.End()).Line - fset.Position(d.Pos()).Line + 1
			if fd, ok := d.(*ast.FuncDecl); ok && lines > 60 {
				t.Errorf("%s: %s has %d lines", name, fd.Name.Name, lines)
			}
		}
	}
}

// intTypes are the names of types of a file that are made of int.
func intTypes(f *ast.File) []string {
	var names []string
	ast.Inspect(f, func(n ast.Node) bool {
		if s, ok := n.(*ast.TypeSpec); ok && !s.Assign.IsValid() {
			if of, ok := s.Type.(*ast.Ident); ok && of.Name == "int" {
				names = append(names, s.Name.Name)
			}
		}
		return true
	})
	return names
}

// tellsOneByOne says whether a function answers an iterator.
func tellsOneByOne(d *ast.FuncDecl) bool {
	if d.Type.Results == nil || len(d.Type.Results.List) != 1 {
		return false
	}
	of, ok := d.Type.Results.List[0].Type.(*ast.IndexExpr)
	if !ok {
		return false
	}
	sel, ok := of.X.(*ast.SelectorExpr)
	return ok && sel.Sel.Name == "Seq"
}

func TestWaysOfAddresses(t *testing.T) {
	f := layers(t, token.NewFileSet())["l1_addr.go"]
	if f == nil {
		t.Fatal("there is no first layer")
	}
	methods, iterators := 0, 0
	for _, d := range f.Decls {
		fd, ok := d.(*ast.FuncDecl)
		if !ok || fd.Recv == nil {
			continue
		}
		of, ok := fd.Recv.List[0].Type.(*ast.Ident)
		if !ok || !slices.Contains(intTypes(f), of.Name) {
			continue
		}
		methods++
		if tellsOneByOne(fd) {
			iterators++
		}
	}
	if methods == 0 || iterators == 0 {
		t.Fatalf("of addresses there are %d methods, and %d of these tell a burst one by one", methods, iterators)
	}
}

// Lanes are bits: the second layer takes one by a shift, and keeps bytes by masks, not by sums and rests.
func TestWaysOfWords(t *testing.T) {
	f := layers(t, token.NewFileSet())["l2_word.go"]
	if f == nil {
		t.Fatal("there is no second layer")
	}
	uses := map[token.Token]int{}
	ast.Inspect(f, func(n ast.Node) bool {
		if b, ok := n.(*ast.BinaryExpr); ok {
			uses[b.Op]++
		}
		return true
	})
	if uses[token.SHL] == 0 || uses[token.SHR] == 0 || uses[token.AND] == 0 || uses[token.OR] == 0 {
		t.Errorf("lanes are taken without shifts and masks: %v", uses)
	}
	if uses[token.REM] != 0 || uses[token.QUO] != 0 {
		t.Errorf("bytes are taken by rests: %v", uses)
	}
}

// interfacesOf are the interfaces of a file, by name, each with the names of its methods and what these take.
func interfacesOf(f *ast.File) map[string]map[string]string {
	all := map[string]map[string]string{}
	ast.Inspect(f, func(n ast.Node) bool {
		s, ok := n.(*ast.TypeSpec)
		if !ok {
			return true
		}
		of, ok := s.Type.(*ast.InterfaceType)
		if !ok {
			return true
		}
		all[s.Name.Name] = map[string]string{}
		for _, m := range of.Methods.List {
			if ft, ok := m.Type.(*ast.FuncType); ok && len(m.Names) == 1 {
				all[s.Name.Name][m.Names[0].Name] = onlyParam(ft)
			}
		}
		return true
	})
	return all
}

// onlyParam is the name of the type of the one thing that a function takes; empty, if it is not so.
func onlyParam(ft *ast.FuncType) string {
	if len(ft.Params.List) != 1 {
		return ""
	}
	of, ok := ft.Params.List[0].Type.(*ast.Ident)
	if !ok {
		return ""
	}
	return of.Name
}

// receiversOf are the types of a file that have a method of that name which takes that.
func receiversOf(f *ast.File, name string, takes string) []string {
	var all []string
	for _, d := range f.Decls {
		fd, ok := d.(*ast.FuncDecl)
		if !ok || fd.Recv == nil || fd.Name.Name != name || onlyParam(fd.Type) != takes {
			continue
		}
		if of, ok := fd.Recv.List[0].Type.(*ast.Ident); ok {
			all = append(all, of.Name)
		}
	}
	return all
}

// Each kind is a type behind one interface, whose method takes a visitor: an interface with a method for each of these types.
func TestWaysOfWhatIsAsked(t *testing.T) {
	f := layers(t, token.NewFileSet())["l3_req.go"]
	if f == nil {
		t.Fatal("there is no third layer")
	}
	all := interfacesOf(f)
	for _, methods := range all {
		for name, visitor := range methods {
			kinds := receiversOf(f, name, visitor)
			var seen []string
			for _, kind := range all[visitor] {
				seen = append(seen, kind)
			}
			slices.Sort(kinds)
			slices.Sort(seen)
			if len(kinds) == 4 && slices.Equal(kinds, seen) {
				return
			}
		}
	}
	t.Fatalf("no interface has the four kinds behind it, and a visitor for each: %v", all)
}

// structsOf are the structs of a file, by name.
func structsOf(f *ast.File) map[string]*ast.StructType {
	all := map[string]*ast.StructType{}
	ast.Inspect(f, func(n ast.Node) bool {
		if s, ok := n.(*ast.TypeSpec); ok {
			if of, ok := s.Type.(*ast.StructType); ok {
				all[s.Name.Name] = of
			}
		}
		return true
	})
	return all
}

// What is held is a map whose keys are compared, a store is an array; both stand in a type of the fourth layer, and none at package level.
func TestWaysOfOneThingAtOnce(t *testing.T) {
	f := layers(t, token.NewFileSet())["l4_atom.go"]
	if f == nil {
		t.Fatal("there is no fourth layer")
	}
	structs := structsOf(f)
	maps, arrays := 0, 0
	for _, s := range structs {
		for _, field := range s.Fields.List {
			switch of := field.Type.(type) {
			case *ast.MapType:
				if key, ok := of.Key.(*ast.Ident); ok && structs[key.Name] != nil {
					maps++
				}
			case *ast.ArrayType:
				if of.Len != nil {
					arrays++
				}
			}
		}
	}
	if maps == 0 || arrays == 0 {
		t.Errorf("there are %d maps by holders, and %d arrays", maps, arrays)
	}
	for _, d := range f.Decls {
		if g, ok := d.(*ast.GenDecl); ok && g.Tok == token.VAR {
			t.Error("the fourth layer keeps something between two calls")
		}
	}
}

// methodsNamed are the types of a file that have a method of that name.
func methodsNamed(f *ast.File, name string) []string {
	var all []string
	for _, d := range f.Decls {
		fd, ok := d.(*ast.FuncDecl)
		if !ok || fd.Recv == nil || fd.Name.Name != name {
			continue
		}
		of := fd.Recv.List[0].Type
		if star, ok := of.(*ast.StarExpr); ok {
			of = star.X
		}
		if id, ok := of.(*ast.Ident); ok {
			all = append(all, id.Name)
		}
	}
	return all
}

// Jobs are kept in a list of a generic type, which is not just for jobs; what may not happen is an error of a type with a number, asked with errors.As.
func TestWaysOfWhatHappens(t *testing.T) {
	f := layers(t, token.NewFileSet())["l5_tlm.go"]
	if f == nil {
		t.Fatal("there is no fifth layer")
	}
	var generic []string
	lists, asks := 0, 0
	ast.Inspect(f, func(n ast.Node) bool {
		if s, ok := n.(*ast.TypeSpec); ok && s.TypeParams != nil {
			generic = append(generic, s.Name.Name)
		}
		return true
	})
	ast.Inspect(f, func(n ast.Node) bool {
		switch x := n.(type) {
		case *ast.Field:
			if of, ok := x.Type.(*ast.IndexExpr); ok {
				list, isName := of.X.(*ast.Ident)
				job, isJob := of.Index.(*ast.Ident)
				if isName && isJob && slices.Contains(generic, list.Name) && job.Name == "TlmJob" {
					lists++
				}
			}
		case *ast.SelectorExpr:
			if of, ok := x.X.(*ast.Ident); ok && of.Name == "errors" && x.Sel.Name == "As" {
				asks++
			}
		}
		return true
	})
	codes := 0
	for _, name := range methodsNamed(f, "Error") {
		if s := structsOf(f)[name]; s != nil {
			for _, field := range s.Fields.List {
				if of, ok := field.Type.(*ast.Ident); ok && of.Name == "int" {
					codes++
				}
			}
		}
	}
	if lists == 0 || asks == 0 || codes == 0 {
		t.Fatalf("jobs are in %d lists of a generic type; there are %d errors with a code, asked %d times", lists, codes, asks)
	}
}

// Each who asks, and each store, is a machine: a type of the sixth layer that a desk has as many of as there are, with a method for each half of a cycle.
func TestWaysOfCycles(t *testing.T) {
	f := layers(t, token.NewFileSet())["l6_cyc.go"]
	if f == nil {
		t.Fatal("there is no sixth layer")
	}
	second := methodsNamed(f, "secondHalf")
	var machines []string
	for _, name := range methodsNamed(f, "firstHalf") {
		if slices.Contains(second, name) && structsOf(f)[name] != nil {
			machines = append(machines, name)
		}
	}
	if len(machines) != 2 {
		t.Fatalf("there are the machines %v, and not one for who asks, and one for a store", machines)
	}
	kept := map[string]int{}
	for _, s := range structsOf(f) {
		for _, field := range s.Fields.List {
			list, ok := field.Type.(*ast.ArrayType)
			if !ok {
				continue
			}
			of := list.Elt
			if star, ok := of.(*ast.StarExpr); ok {
				of = star.X
			}
			if id, ok := of.(*ast.Ident); ok {
				kept[id.Name]++
			}
		}
	}
	for _, name := range machines {
		if kept[name] == 0 {
			t.Errorf("no desk keeps the machines %s", name)
		}
	}
}

// takesWhatHappens says whether a function takes just one thing that happens, and answers nothing.
func takesWhatHappens(ft *ast.FuncType) bool {
	return onlyParam(ft) == "TlmEvent" && (ft.Results == nil || len(ft.Results.List) == 0)
}

// callbacksOf are the names of types of a file that are functions which take what happens.
func callbacksOf(f *ast.File) []string {
	var all []string
	ast.Inspect(f, func(n ast.Node) bool {
		if s, ok := n.(*ast.TypeSpec); ok {
			if ft, ok := s.Type.(*ast.FuncType); ok && takesWhatHappens(ft) {
				all = append(all, s.Name.Name)
			}
		}
		return true
	})
	return all
}

// What happens is told by a callback: a cycle, and both halves of a machine that asks, take one; the seventh layer hands one in.
func TestWaysOfWhatHappensInCycles(t *testing.T) {
	all := layers(t, token.NewFileSet())
	cycles, happens := all["l6_cyc.go"], all["l7_ref.go"]
	if cycles == nil || happens == nil {
		t.Fatal("there is no sixth, or no seventh, layer")
	}
	names := callbacksOf(cycles)
	takers := map[string]int{}
	for _, d := range cycles.Decls {
		fd, ok := d.(*ast.FuncDecl)
		if !ok {
			continue
		}
		for _, p := range fd.Type.Params.List {
			if of, ok := p.Type.(*ast.Ident); ok && slices.Contains(names, of.Name) {
				takers[fd.Name.Name]++
			}
		}
	}
	given := 0
	ast.Inspect(happens, func(n ast.Node) bool {
		if call, ok := n.(*ast.CallExpr); ok {
			for _, arg := range call.Args {
				if lit, ok := arg.(*ast.FuncLit); ok && takesWhatHappens(lit.Type) {
					given++
				}
			}
		}
		return true
	})
	if takers["cycle"] != 1 || takers["firstHalf"] != 2 || takers["secondHalf"] != 1 || given == 0 {
		t.Fatalf("a callback is taken by %v, and handed in %d times", takers, given)
	}
}

// scannersOf are the structs of a file that keep an error, each with the name of the field that does.
func scannersOf(f *ast.File) map[string]string {
	all := map[string]string{}
	for name, s := range structsOf(f) {
		for _, field := range s.Fields.List {
			if of, ok := field.Type.(*ast.Ident); ok && of.Name == "error" && len(field.Names) == 1 {
				all[name] = field.Names[0].Name
			}
		}
	}
	return all
}

// fieldIs says whether something is a field of that name.
func fieldIs(e ast.Expr, name string) bool {
	sel, ok := e.(*ast.SelectorExpr)
	return ok && sel.Sel.Name == name
}

// keepsIn is how often a field of that name is turned in a part of a file.
func keepsIn(n ast.Node, field string) int {
	many := 0
	ast.Inspect(n, func(n ast.Node) bool {
		if set, ok := n.(*ast.AssignStmt); ok {
			for _, to := range set.Lhs {
				if fieldIs(to, field) {
					many++
				}
			}
		}
		return true
	})
	return many
}

// keepsFirst is how often that is done just where there is none yet.
func keepsFirst(n ast.Node, field string) int {
	many := 0
	ast.Inspect(n, func(n ast.Node) bool {
		branch, ok := n.(*ast.IfStmt)
		if !ok {
			return true
		}
		if cond, ok := branch.Cond.(*ast.BinaryExpr); ok && cond.Op == token.EQL && fieldIs(cond.X, field) {
			many += keepsIn(branch.Body, field)
		}
		return true
	})
	return many
}

// Words are read by a scanner: a type of the eighth layer that reads them by methods, and keeps an error just where it has none yet.
func TestWaysOfLines(t *testing.T) {
	f := layers(t, token.NewFileSet())["l8_desk.go"]
	if f == nil {
		t.Fatal("there is no eighth layer")
	}
	all := scannersOf(f)
	if len(all) != 1 {
		t.Fatalf("there are the scanners %v", all)
	}
	for name, field := range all {
		if keepsIn(f, field) == 0 || keepsIn(f, field) != keepsFirst(f, field) {
			t.Errorf("the scanner %s keeps an error %d times, the first one %d times", name, keepsIn(f, field), keepsFirst(f, field))
		}
		if words := methodsNamed(f, "word"); !slices.Contains(words, name) {
			t.Errorf("the scanner %s reads no words; these do: %v", name, words)
		}
	}
}

// callsOf is how often functions of a package are called in a file, by name.
func callsOf(f *ast.File, from string) map[string]int {
	all := map[string]int{}
	ast.Inspect(f, func(n ast.Node) bool {
		if call, ok := n.(*ast.CallExpr); ok {
			if sel, ok := call.Fun.(*ast.SelectorExpr); ok {
				if of, ok := sel.X.(*ast.Ident); ok && of.Name == from {
					all[sel.Sel.Name]++
				}
			}
		}
		return true
	})
	return all
}

// isListOfLists says whether a type is that of places by places.
func isListOfLists(of ast.Expr) bool {
	outer, ok := of.(*ast.ArrayType)
	if !ok {
		return false
	}
	_, ok = outer.Elt.(*ast.ArrayType)
	return ok
}

// What is not apart is a graph: a type of the ninth layer that keeps, of each thing, a list; what is free is a type that is a heap, and is put in, and taken from, as one.
func TestWaysOfOtherOrders(t *testing.T) {
	f := layers(t, token.NewFileSet())["l9_trace.go"]
	if f == nil {
		t.Fatal("there is no ninth layer")
	}
	graphs := 0
	for _, s := range structsOf(f) {
		for _, field := range s.Fields.List {
			if isListOfLists(field.Type) {
				graphs++
			}
		}
	}
	heaps := methodsNamed(f, "Less")
	for _, name := range []string{"Len", "Swap", "Push", "Pop"} {
		have := methodsNamed(f, name)
		heaps = slices.DeleteFunc(heaps, func(of string) bool { return !slices.Contains(have, of) })
	}
	calls := callsOf(f, "heap")
	if graphs == 0 || len(heaps) != 1 || calls["Push"] == 0 || calls["Pop"] == 0 {
		t.Fatalf("there are %d graphs, and the heaps %v, of which these are called: %v", graphs, heaps, calls)
	}
}

// embeddedIn are the names of the types that a struct has embedded.
func embeddedIn(s *ast.StructType) []string {
	var all []string
	for _, field := range s.Fields.List {
		if of, ok := field.Type.(*ast.Ident); ok && len(field.Names) == 0 {
			all = append(all, of.Name)
		}
	}
	return all
}

// ringsOf are the types of a file that are lists of who asks, and not just one as an argument is.
func ringsOf(f *ast.File) []string {
	var all []string
	ast.Inspect(f, func(n ast.Node) bool {
		if s, ok := n.(*ast.TypeSpec); ok && !s.Assign.IsValid() {
			if list, ok := s.Type.(*ast.ArrayType); ok && list.Len == nil {
				if of, ok := list.Elt.(*ast.Ident); ok && of.Name == "bool" {
					all = append(all, s.Name.Name)
				}
			}
		}
		return true
	})
	return all
}

// Counts are a struct of the tenth layer that is embedded in each machine, be it one who asks or a store; who comes next is told by a ring, a type of who asks with a method for that.
func TestWaysOfWhatIsCounted(t *testing.T) {
	all := layers(t, token.NewFileSet())
	cycles, f := all["l6_cyc.go"], all["l10_count.go"]
	if cycles == nil || f == nil {
		t.Fatal("there is no sixth, or no tenth, layer")
	}
	counted := map[string]int{}
	for _, name := range methodsNamed(cycles, "firstHalf") {
		for _, of := range embeddedIn(structsOf(cycles)[name]) {
			if structsOf(f)[of] != nil {
				counted[of]++
			}
		}
	}
	if len(counted) != 1 {
		t.Errorf("the machines have these counts embedded: %v", counted)
	}
	for name, many := range counted {
		if many != 2 {
			t.Errorf("%s is embedded in %d machines", name, many)
		}
	}
	for _, name := range ringsOf(f) {
		if slices.Contains(methodsNamed(f, "next"), name) {
			return
		}
	}
	t.Errorf("there are the rings %v, and none tells who is next", ringsOf(f))
}
