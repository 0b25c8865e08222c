"""weavestore: a store of many versions that stands every weaving and every fall."""
