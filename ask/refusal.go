package ask

import (
	"interlocutor/api"
	"interlocutor/blob"
)

// unlessRefused tells what the work answers, or the error that it panics with: so each
// step of it may take it that all went well ahead of it. No panic leaves a face.
func unlessRefused[A any](work func() A) (answer A, e api.Errno) {
	defer func() {
		if refusal, is := recover().(api.Errno); is {
			e = refusal
		}
	}()
	return work(), api.OK
}

// unless refuses what is asked by an error, where something does not hold.
func unless(holds bool, e api.Errno) {
	if !holds {
		panic(e)
	}
}

// languageOf reads the bytes and tells the language of that name.
func languageOf(b []byte, id string) api.Locale {
	all, is := blob.Decode(b)
	unless(is, api.BadBlob)
	l, is := blob.Resolve(all, id)
	unless(is, api.UnknownLocale)
	return l
}
