# Every name of the package stands in one of its modules; this file defines nothing.
