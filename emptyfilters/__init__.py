"""Which rows a deed can reach when options are missing and lists are empty."""
